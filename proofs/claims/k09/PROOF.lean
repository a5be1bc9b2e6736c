import PyProof.Rows.All
import Wide.All
import OpenK.AllK
import Wide.FinOn
import HandS.ForMost
import HandS.EndBits
import HandS.Wide
import HandS.Rev
import HandS.Zip
import HandS.Conv
import HandS.IsInst
import HandS.TupMul
import HandS.TupAny
import HandS.SortInts
import HandS.Style
import PyProof.ReprRoads
import PySem.Challenge.RW_toldpieces_k09_shapes_judged
set_option Elab.async false
set_option linter.all false
set_option maxRecDepth 100000
set_option maxHeartbeats 4000000
/-! Sm: Python's data without a heap: what an expression or statement gives, as a plain function; that the layer's readings hold by it. -/
namespace Sm
open PySem PySem.Spec PyProof.Rows L2

/-- a thing as the plain side sees it: data that nobody changes, or a list that somebody may change -/
inductive SV where
  | dat (d : PyData)
  | cel (i : Nat)
abbrev Mem := List (Option (List SV))
abbrev Rho := List (Option SV)

def kD : Key → PyData
  | .inl i => .int i
  | .inr x => .str x

mutual
inductive Dq (K : PySem.W.Frag) (G : Hp) : V → PyData → Prop
  | non : Dq K G .non .none
  | bl (b : Bool) : Dq K G (.bl b) (.bool b)
  | int (i : Int) : Dq K G (.int i) (.int i)
  | str (x : Str) : Dq K G (.str x) (.str x)
  | lst {a : Addr} {xs : List V} {ds : List PyData} : SqL K G a xs → DqAll K G xs ds → Dq K G (.ref a) (.list ds)
  | tup {a : Addr} {xs : List V} {ds : List PyData} : SqT K G a xs → DqAll K G xs ds → Dq K G (.ref a) (.tuple ds)
  | dic {a : Addr} {kvs : List (Key × V)} {ds : List (PyData × PyData)} : Rd G a (.dK kvs) → DqKv K G kvs ds → Dq K G (.ref a) (.dict ds)
inductive DqAll (K : PySem.W.Frag) (G : Hp) : List V → List PyData → Prop
  | nil : DqAll K G [] []
  | cons {v : V} {vs : List V} {d : PyData} {ds : List PyData} : Dq K G v d → DqAll K G vs ds → DqAll K G (v :: vs) (d :: ds)
inductive DqKv (K : PySem.W.Frag) (G : Hp) : List (Key × V) → List (PyData × PyData) → Prop
  | nil : DqKv K G [] []
  | cons {k : Key} {v : V} {vs : List (Key × V)} {d : PyData} {ds : List (PyData × PyData)} : Dq K G v d → DqKv K G vs ds → DqKv K G ((k, v) :: vs) ((kD k, d) :: ds)
end

theorem same_sqT {K : PySem.W.Frag} {H H' : Hp} {a : Addr} {xs : List V} (e : Same H H') (h : SqT K H a xs) : SqT K H' a xs := by
  rcases h with (h | ⟨o, h⟩) | h
  · exact .inl (.inl (e _ _ h))
  · exact .inl (.inr ⟨o, e _ _ h⟩)
  · exact .inr h
theorem same_rd {H H' : Hp} {a : Addr} {u : HO} (e : Same H H') (h : Rd H a u) : Rd H' a u := by
  rcases h with h | ⟨o, h⟩
  · exact .inl (e _ _ h)
  · exact .inr ⟨o, e _ _ h⟩
section
variable {K : PySem.W.Frag} {G G' : Hp}
mutual
theorem Dq.mono (e : Same G G') : ∀ {v : V} {d : PyData}, Dq K G v d → Dq K G' v d
  | _, _, .non => .non
  | _, _, .bl b => .bl b
  | _, _, .int i => .int i
  | _, _, .str x => .str x
  | _, _, .lst h r => .lst (e.seq h) (DqAll.mono e r)
  | _, _, .tup h r => .tup (same_sqT e h) (DqAll.mono e r)
  | _, _, .dic h r => .dic (same_rd e h) (DqKv.mono e r)
theorem DqAll.mono (e : Same G G') : ∀ {v : List V} {d : List PyData}, DqAll K G v d → DqAll K G' v d
  | _, _, .nil => .nil
  | _, _, .cons h r => .cons (Dq.mono e h) (DqAll.mono e r)
theorem DqKv.mono (e : Same G G') : ∀ {v : List (Key × V)} {d : List (PyData × PyData)}, DqKv K G v d → DqKv K G' v d
  | _, _, .nil => .nil
  | _, _, .cons h r => .cons (Dq.mono e h) (DqKv.mono e r)
end
theorem DqAll.length : ∀ {v : List V} {d : List PyData}, DqAll K G v d → v.length = d.length
  | _, _, .nil => rfl
  | _, _, .cons _ r => by rw [List.length_cons, List.length_cons, r.length]
theorem DqAll.get : ∀ {v : List V} {d : List PyData} {i : Nat} {x : V}, DqAll K G v d → v[i]? = some x → ∃ y, d[i]? = some y ∧ Dq K G x y
  | _, _, _, _, .nil, h => by simp at h
  | _, _, 0, _, .cons h _, e => by simp at e; subst e; exact ⟨_, rfl, h⟩
  | _, _, i + 1, _, .cons _ r, e => by
    obtain ⟨y, h1, h2⟩ := r.get (i := i) (by simpa using e)
    exact ⟨y, by simpa using h1, h2⟩
theorem DqAll.get' : ∀ {v : List V} {d : List PyData} {i : Nat} {y : PyData}, DqAll K G v d → d[i]? = some y → ∃ x, v[i]? = some x ∧ Dq K G x y
  | _, _, _, _, .nil, h => by simp at h
  | _, _, 0, _, .cons h _, e => by simp at e; subst e; exact ⟨_, rfl, h⟩
  | _, _, i + 1, _, .cons _ r, e => by
    obtain ⟨y, h1, h2⟩ := r.get' (i := i) (by simpa using e)
    exact ⟨y, by simpa using h1, h2⟩
theorem DqAll.append : ∀ {v w : List V} {d e : List PyData}, DqAll K G v d → DqAll K G w e → DqAll K G (v ++ w) (d ++ e)
  | _, _, _, _, .nil, h => h
  | _, _, _, _, .cons h r, s => .cons h (r.append s)
theorem DqAll.take : ∀ {v : List V} {d : List PyData} (n : Nat), DqAll K G v d → DqAll K G (v.take n) (d.take n)
  | _, _, 0, _ => .nil
  | _, _, _ + 1, .nil => .nil
  | _, _, n + 1, .cons h r => .cons h (r.take n)
theorem DqAll.drop : ∀ {v : List V} {d : List PyData} (n : Nat), DqAll K G v d → DqAll K G (v.drop n) (d.drop n)
  | _, _, 0, r => r
  | _, _, _ + 1, .nil => .nil
  | _, _, n + 1, .cons _ r => r.drop n
theorem DqAll.reverse : ∀ {v : List V} {d : List PyData}, DqAll K G v d → DqAll K G v.reverse d.reverse
  | _, _, .nil => .nil
  | _, _, .cons h r => by rw [List.reverse_cons, List.reverse_cons]; exact r.reverse.append (.cons h .nil)
theorem DqAll.flat : ∀ (n : Nat) {v : List V} {d : List PyData}, DqAll K G v d → DqAll K G (List.replicate n v).flatten (List.replicate n d).flatten
  | 0, _, _, _ => .nil
  | n + 1, _, _, h => by
    rw [List.replicate_succ, List.replicate_succ, List.flatten_cons, List.flatten_cons]
    exact h.append (DqAll.flat n h)
end

inductive Sv (K : PySem.W.Frag) (π : List Addr) (G : Hp) : SV → V → Prop
  | dat {d : PyData} {v : V} : Dq K G v d → Sv K π G (.dat d) v
  | cel {i : Nat} {a : Addr} : π[i]? = some a → Sv K π G (.cel i) (.ref a)
inductive Svs (K : PySem.W.Frag) (π : List Addr) (G : Hp) : List SV → List V → Prop
  | nil : Svs K π G [] []
  | cons {s : SV} {v : V} {ss : List SV} {vs : List V} : Sv K π G s v → Svs K π G ss vs → Svs K π G (s :: ss) (v :: vs)
inductive Slots (K : PySem.W.Frag) (π : List Addr) (G : Hp) : Rho → L2.St → Prop
  | nil : Slots K π G [] []
  | skip {v : Option V} {ρ : Rho} {σ : L2.St} : Slots K π G ρ σ → Slots K π G (none :: ρ) (v :: σ)
  | hold {s : SV} {x : V} {ρ : Rho} {σ : L2.St} : Sv K π G s x → Slots K π G ρ σ → Slots K π G (some s :: ρ) (some x :: σ)
section
variable {K : PySem.W.Frag} {π more : List Addr} {G G' : Hp}
theorem ix_app {i : Nat} {a : Addr} (h : π[i]? = some a) : (π ++ more)[i]? = some a := by
  obtain ⟨hi, e⟩ := List.getElem?_eq_some_iff.mp h
  rw [List.getElem?_append_left hi]
  exact h
theorem Sv.mono (e : Same G G') : ∀ {s : SV} {v : V}, Sv K π G s v → Sv K (π ++ more) G' s v
  | _, _, .dat h => .dat (h.mono e)
  | _, _, .cel h => .cel (ix_app h)
theorem Svs.mono (e : Same G G') : ∀ {s : List SV} {v : List V}, Svs K π G s v → Svs K (π ++ more) G' s v
  | _, _, .nil => .nil
  | _, _, .cons h r => .cons (h.mono e) (r.mono e)
theorem Slots.mono (e : Same G G') : ∀ {s : Rho} {v : L2.St}, Slots K π G s v → Slots K (π ++ more) G' s v
  | _, _, .nil => .nil
  | _, _, .skip r => .skip (r.mono e)
  | _, _, .hold h r => .hold (h.mono e) (r.mono e)
theorem Sv.mono0 (e : Same G G') {s : SV} {v : V} (h : Sv K π G s v) : Sv K π G' s v := by
  have := Sv.mono (more := []) e h
  rwa [List.append_nil] at this
theorem Svs.mono0 (e : Same G G') {s : List SV} {v : List V} (h : Svs K π G s v) : Svs K π G' s v := by
  have := Svs.mono (more := []) e h
  rwa [List.append_nil] at this
theorem Slots.mono0 (e : Same G G') {s : Rho} {v : L2.St} (h : Slots K π G s v) : Slots K π G' s v := by
  have := Slots.mono (more := []) e h
  rwa [List.append_nil] at this
theorem Svs.length : ∀ {s : List SV} {v : List V}, Svs K π G s v → s.length = v.length
  | _, _, .nil => rfl
  | _, _, .cons _ r => by rw [List.length_cons, List.length_cons, r.length]
theorem Svs.get : ∀ {s : List SV} {v : List V} {i : Nat} {x : SV}, Svs K π G s v → s[i]? = some x → ∃ y, v[i]? = some y ∧ Sv K π G x y
  | _, _, _, _, .nil, h => by simp at h
  | _, _, 0, _, .cons h _, e => by simp at e; subst e; exact ⟨_, rfl, h⟩
  | _, _, i + 1, _, .cons _ r, e => by
    obtain ⟨y, h1, h2⟩ := r.get (i := i) (by simpa using e)
    exact ⟨y, by simpa using h1, h2⟩
theorem Svs.refs : ∀ {s : List SV} {v : List V} {j : Nat}, Svs K π G s v → SV.cel j ∈ s → j < π.length
  | _, _, _, .nil, h => by cases h
  | _, _, _, .cons h r, m => by
    rcases List.mem_cons.mp m with e | e
    · subst e
      cases h with
      | cel h => exact (List.getElem?_eq_some_iff.mp h).1
    · exact r.refs e
theorem Svs.append : ∀ {s t : List SV} {v w : List V}, Svs K π G s v → Svs K π G t w → Svs K π G (s ++ t) (v ++ w)
  | _, _, _, _, .nil, h => h
  | _, _, _, _, .cons h r, s => .cons h (r.append s)
theorem Svs.set {x : SV} {y : V} (h : Sv K π G x y) : ∀ {s : List SV} {v : List V} (i : Nat), Svs K π G s v → Svs K π G (s.set i x) (v.set i y)
  | _, _, _, .nil => .nil
  | _, _, 0, .cons _ r => .cons h r
  | _, _, i + 1, .cons q r => .cons q (r.set h i)
theorem Svs.ofD : ∀ {d : List PyData} {v : List V}, DqAll K G v d → Svs K π G (d.map SV.dat) v
  | _, _, .nil => .nil
  | _, _, .cons h r => .cons (.dat h) (Svs.ofD r)
theorem Slots.length : ∀ {s : Rho} {v : L2.St}, Slots K π G s v → s.length = v.length
  | _, _, .nil => rfl
  | _, _, .skip r => by rw [List.length_cons, List.length_cons, r.length]
  | _, _, .hold _ r => by rw [List.length_cons, List.length_cons, r.length]
theorem Slots.get : ∀ {ρ : Rho} {σ : L2.St} {i : Nat} {x : SV}, Slots K π G ρ σ → ρ[i]? = some (some x) → ∃ y, σ[i]? = some (some y) ∧ Sv K π G x y
  | _, _, _, _, .nil, h => by simp at h
  | _, _, 0, _, .skip _, e => by simp at e
  | _, _, 0, _, .hold h _, e => by simp at e; subst e; exact ⟨_, rfl, h⟩
  | _, _, i + 1, _, .skip r, e => by
    obtain ⟨y, h1, h2⟩ := r.get (i := i) (by simpa using e)
    exact ⟨y, by simpa using h1, h2⟩
  | _, _, i + 1, _, .hold _ r, e => by
    obtain ⟨y, h1, h2⟩ := r.get (i := i) (by simpa using e)
    exact ⟨y, by simpa using h1, h2⟩
theorem Slots.set {x : SV} {y : V} (h : Sv K π G x y) : ∀ {ρ : Rho} {σ : L2.St} (i : Nat), Slots K π G ρ σ → Slots K π G (ρ.set i (some x)) (σ.set i (some y))
  | _, _, _, .nil => .nil
  | _, _, 0, .skip r => .hold h r
  | _, _, 0, .hold _ r => .hold h r
  | _, _, i + 1, .skip r => .skip (r.set h i)
  | _, _, i + 1, .hold q r => .hold q (r.set h i)
theorem Slots.unset : ∀ {ρ : Rho} {σ : L2.St} (i : Nat), Slots K π G ρ σ → Slots K π G (ρ.set i none) (σ.set i none)
  | _, _, _, .nil => .nil
  | _, _, 0, .skip r => .skip r
  | _, _, 0, .hold _ r => .skip r
  | _, _, i + 1, .skip r => .skip (r.unset i)
  | _, _, i + 1, .hold q r => .hold q (r.unset i)
def wipeR (ρ : Rho) : List Nat → Rho
  | [] => ρ
  | v :: vs => (wipeR ρ vs).set v none
theorem Slots.wiped {ρ : Rho} {σ : L2.St} (h : Slots K π G ρ σ) : ∀ vs : List Nat, Slots K π G (wipeR ρ vs) (wipe σ vs)
  | [] => h
  | v :: vs => by
    show Slots K π G ((wipeR ρ vs).set v none) ((wipe σ vs).set v none)
    exact (h.wiped vs).unset v
end
theorem set_none_comm (σ : L2.St) (i j : Nat) (x y : Option V) (h : i ≠ j) : (σ.set i x).set j y = (σ.set j y).set i x := List.set_comm x y h
theorem wipe_set {σ : L2.St} {i : Nat} {y : Option V} : ∀ {vs : List Nat}, i ∈ vs → wipe (σ.set i y) vs = wipe σ vs
  | [], h => by cases h
  | v :: vs, h => by
    show (wipe (σ.set i y) vs).set v none = (wipe σ vs).set v none
    by_cases hv : i ∈ vs
    · rw [wipe_set hv]
    · rcases List.mem_cons.mp h with e | e
      · subst e
        have key : ∀ (ws : List Nat), i ∉ ws → wipe (σ.set i y) ws = (wipe σ ws).set i y := by
          intro ws
          induction ws with
          | nil => intro _; rfl
          | cons w ws ih =>
            intro hw
            show (wipe (σ.set i y) ws).set w none = ((wipe σ ws).set w none).set i y
            rw [ih (fun q => hw (List.mem_cons_of_mem _ q)), List.set_comm]
            intro e; exact hw (e ▸ List.mem_cons_self)
        rw [key vs hv, List.set_set]
      · exact absurd e hv
theorem wipe_wipe (σ : L2.St) : ∀ vs ws : List Nat, (∀ v ∈ vs, v ∈ ws) → wipe (wipe σ vs) ws = wipe σ ws
  | [], _, _ => rfl
  | v :: vs, ws, h => by
    show wipe ((wipe σ vs).set v none) ws = wipe σ ws
    rw [wipe_set (h v List.mem_cons_self), wipe_wipe σ vs ws (fun u hu => h u (List.mem_cons_of_mem _ hu))]

/-- the plain side and the heap: F what others hold, G what nobody changes, M what may change -/
structure Rel (K : PySem.W.Frag) (F : Hp) (π : List Addr) (G H : Hp) (M : Mem) : Prop where
  ex : Same G H
  fr : ∀ a o, F a = some o → H a = some o ∧ G a = none
  len : π.length = M.length
  mem : ∀ (i : Nat) (xs : List SV), M[i]? = some (some xs) → ∃ a vs, π[i]? = some a ∧ F a = none ∧ G a = none ∧ H a = some (.lst vs) ∧ Svs K π G xs vs
  inj : ∀ (i j : Nat) (xs ys : List SV) (a : Addr), M[i]? = some (some xs) → M[j]? = some (some ys) → π[i]? = some a → π[j]? = some a → i = j
  wf : ∀ (i : Nat) (xs : List SV), M[i]? = some (some xs) → ∀ j : Nat, SV.cel j ∈ xs → j < i

/-- at most one new object, that nobody changes -/
inductive Al (G H : Hp) : Hp → Hp → Prop
  | same : Al G H G H
  | new {p : Addr} {o : HO} : H p = none → Al G H (upd G p o) (upd H p o)
theorem same_upd {H : Hp} {p : Addr} {o : HO} (h : H p = none) : Same H (upd H p o) := fun b x e => by
  rw [upd_ne (ne_of_none e h)]
  exact e
theorem none_of_same {G H : Hp} {p : Addr} (e : Same G H) (h : H p = none) : G p = none := Same.free e h
section
variable {K : PySem.W.Frag} {F : Hp} {π : List Addr} {G H G' H' : Hp} {M : Mem}
theorem Rel.alSame (r : Rel K F π G H M) (a : Al G H G' H') : Same G G' := by
  cases a with
  | same => exact Same.refl G
  | new h => exact same_upd (none_of_same r.ex h)
theorem Rel.al (r : Rel K F π G H M) (a : Al G H G' H') : Rel K F π G' H' M := by
  cases a with
  | same => exact r
  | @new p o h =>
    have hg : G p = none := none_of_same r.ex h
    refine ⟨fun b x e => ?_, fun b x e => ?_, r.len, fun i xs e => ?_, r.inj, r.wf⟩
    · by_cases hb : b = p
      · subst hb; rw [upd_same] at e ⊢; exact e
      · rw [upd_ne hb] at e ⊢; exact r.ex _ _ e
    · obtain ⟨h1, h2⟩ := r.fr b x e
      have hb : b ≠ p := ne_of_none h1 h
      rw [upd_ne hb, upd_ne hb]; exact ⟨h1, h2⟩
    · obtain ⟨a, vs, h1, h2, h3, h4, h5⟩ := r.mem i xs e
      have hb : a ≠ p := ne_of_none h4 h
      refine ⟨a, vs, h1, h2, ?_, ?_, h5.mono0 (same_upd hg)⟩
      · rw [upd_ne hb]; exact h3
      · rw [upd_ne hb]; exact h4
/-- a new list that may change -/
theorem Rel.push (r : Rel K F π G H M) {p : Addr} {xs : List SV} {vs : List V} (h : H p = none) (s : Svs K π G xs vs) : Rel K F (π ++ [p]) G (upd H p (.lst vs)) (M ++ [some xs]) := by
  have hg : G p = none := none_of_same r.ex h
  have hf : F p = none := by
    cases q : F p with
    | none => rfl
    | some o => rw [(r.fr p o q).1] at h; cases h
  have old : ∀ (i : Nat) (ys : List SV), (M ++ [some xs])[i]? = some (some ys) → (i < M.length ∧ M[i]? = some (some ys)) ∨ (i = M.length ∧ ys = xs) := by
    intro i ys e
    by_cases hi : i < M.length
    · rw [List.getElem?_append_left hi] at e; exact .inl ⟨hi, e⟩
    · rw [List.getElem?_append_right (by omega)] at e
      have hz : i - M.length = 0 := by
        by_cases hz : i - M.length = 0
        · exact hz
        · rw [List.getElem?_eq_none (by simp; omega)] at e; cases e
      rw [hz] at e
      simp at e
      exact .inr ⟨by omega, e.symm⟩
  have at1 : (π ++ [p])[M.length]? = some p := by
    rw [List.getElem?_append_right (by rw [r.len]; exact Nat.le_refl _), r.len, Nat.sub_self]; rfl
  refine ⟨fun b x e => ?_, fun b x e => ?_, by simp [r.len], fun i ys e => ?_, fun i j ys zs a e1 e2 e3 e4 => ?_, fun i ys e j hj => ?_⟩
  · have hb : b ≠ p := fun z => by rw [z, hg] at e; cases e
    rw [upd_ne hb]; exact r.ex _ _ e
  · obtain ⟨h1, h2⟩ := r.fr b x e
    have hb : b ≠ p := ne_of_none h1 h
    rw [upd_ne hb]; exact ⟨h1, h2⟩
  · rcases old i ys e with ⟨hi, e⟩ | ⟨hi, e⟩
    · obtain ⟨a, vs', h1, h2, h3, h4, h5⟩ := r.mem i ys e
      have hb : a ≠ p := ne_of_none h4 h
      exact ⟨a, vs', ix_app h1, h2, h3, by rw [upd_ne hb]; exact h4, h5.mono (Same.refl G)⟩
    · subst e; subst hi
      exact ⟨p, vs, at1, hf, hg, upd_same, s.mono (Same.refl G)⟩
  · have ne : ∀ (i : Nat) (ys : List SV), M[i]? = some (some ys) → (π ++ [p])[i]? = some a → a ≠ p := by
      intro i ys e q
      obtain ⟨b, _, h1, _, _, h4, _⟩ := r.mem i ys e
      have : (π ++ [p])[i]? = some b := ix_app h1
      rw [this] at q; cases q
      exact ne_of_none h4 h
    rcases old i ys e1 with ⟨hi, e1⟩ | ⟨hi, e1⟩ <;> rcases old j zs e2 with ⟨hj, e2⟩ | ⟨hj, e2⟩
    · rw [List.getElem?_append_left (by rw [r.len]; exact hi)] at e3
      rw [List.getElem?_append_left (by rw [r.len]; exact hj)] at e4
      exact r.inj i j ys zs a e1 e2 e3 e4
    · subst hj
      rw [at1] at e4; cases e4
      exact absurd rfl (ne i ys e1 e3)
    · subst hi
      rw [at1] at e3; cases e3
      exact absurd rfl (ne j zs e2 e4)
    · omega
  · rcases old i ys e with ⟨hi, e⟩ | ⟨hi, e⟩
    · exact r.wf i ys e j hj
    · subst e; subst hi
      have := s.refs hj
      rw [r.len] at this
      exact this
/-- a list is changed -/
theorem Rel.write (r : Rel K F π G H M) {i : Nat} {a : Addr} {xs ys : List SV} {vs : List V} (hi : M[i]? = some (some xs)) (ha : π[i]? = some a) (s : Svs K π G ys vs) (hw : ∀ j : Nat, SV.cel j ∈ ys → SV.cel j ∈ xs) : Rel K F π G (upd H a (.lst vs)) (M.set i (some ys)) := by
  obtain ⟨a', vs', h1, h2, h3, h4, h5⟩ := r.mem i xs hi
  rw [ha] at h1; cases h1
  have hlt : i < M.length := (List.getElem?_eq_some_iff.mp hi).1
  have old : ∀ (j : Nat) (zs : List SV), (M.set i (some ys))[j]? = some (some zs) → (j = i ∧ zs = ys) ∨ (j ≠ i ∧ M[j]? = some (some zs)) := by
    intro j zs e
    by_cases hj : j = i
    · subst hj
      rw [List.getElem?_set_self hlt] at e
      exact .inl ⟨rfl, by cases e; rfl⟩
    · rw [List.getElem?_set_ne (Ne.symm hj)] at e; exact .inr ⟨hj, e⟩
  have was : ∀ (j : Nat) (zs : List SV), (M.set i (some ys))[j]? = some (some zs) → ∃ zs', M[j]? = some (some zs') := by
    intro j zs e
    rcases old j zs e with ⟨rfl, _⟩ | ⟨_, e⟩
    · exact ⟨_, hi⟩
    · exact ⟨_, e⟩
  refine ⟨fun b x e => ?_, fun b x e => ?_, by rw [List.length_set]; exact r.len, fun j zs e => ?_, fun j k zs ws b e1 e2 e3 e4 => ?_, fun j zs e k hk => ?_⟩
  · have hb : b ≠ a := fun z => by rw [z, h3] at e; cases e
    rw [upd_ne hb]; exact r.ex _ _ e
  · obtain ⟨q1, q2⟩ := r.fr b x e
    have hb : b ≠ a := fun z => by rw [z, h2] at e; cases e
    rw [upd_ne hb]; exact ⟨q1, q2⟩
  · rcases old j zs e with ⟨rfl, rfl⟩ | ⟨hj, e⟩
    · exact ⟨a, vs, ha, h2, h3, upd_same, s⟩
    · obtain ⟨b, ws, q1, q2, q3, q4, q5⟩ := r.mem j zs e
      have hb : b ≠ a := fun z => hj (r.inj j i zs xs a e hi (z ▸ q1) ha)
      exact ⟨b, ws, q1, q2, q3, by rw [upd_ne hb]; exact q4, q5⟩
  · obtain ⟨_, f1⟩ := was j zs e1
    obtain ⟨_, f2⟩ := was k ws e2
    exact r.inj j k _ _ b f1 f2 e3 e4
  · rcases old j zs e with ⟨rfl, rfl⟩ | ⟨_, e⟩
    · exact r.wf j xs hi k (hw k hk)
    · exact r.wf j zs e k hk
/-- a list that will not change any more -/
theorem Rel.freeze (r : Rel K F π G H M) {i : Nat} {a : Addr} {xs : List SV} {vs : List V} (hi : M[i]? = some (some xs)) (ha : π[i]? = some a) (hH : H a = some (.lst vs)) : Rel K F π (upd G a (.lst vs)) H (M.set i none) ∧ Same G (upd G a (.lst vs)) := by
  obtain ⟨a', vs', h1, h2, h3, h4, h5⟩ := r.mem i xs hi
  rw [ha] at h1; cases h1
  have hlt : i < M.length := (List.getElem?_eq_some_iff.mp hi).1
  have old : ∀ (j : Nat) (zs : List SV), (M.set i none)[j]? = some (some zs) → j ≠ i ∧ M[j]? = some (some zs) := by
    intro j zs e
    by_cases hj : j = i
    · subst hj
      rw [List.getElem?_set_self hlt] at e; cases e
    · rw [List.getElem?_set_ne (Ne.symm hj)] at e; exact ⟨hj, e⟩
  have sg : Same G (upd G a (.lst vs)) := same_upd h3
  refine ⟨⟨fun b x e => ?_, fun b x e => ?_, by rw [List.length_set]; exact r.len, fun j zs e => ?_, fun j k zs ws b e1 e2 e3 e4 => ?_, fun j zs e => r.wf j zs (old j zs e).2⟩, sg⟩
  · by_cases hb : b = a
    · subst hb; rw [upd_same] at e; cases e; exact hH
    · rw [upd_ne hb] at e; exact r.ex _ _ e
  · obtain ⟨q1, q2⟩ := r.fr b x e
    have hb : b ≠ a := fun z => by rw [z, h2] at e; cases e
    rw [upd_ne hb]; exact ⟨q1, q2⟩
  · obtain ⟨hj, e⟩ := old j zs e
    obtain ⟨b, ws, q1, q2, q3, q4, q5⟩ := r.mem j zs e
    have hb : b ≠ a := fun z => hj (r.inj j i zs xs a e hi (z ▸ q1) ha)
    exact ⟨b, ws, q1, q2, by rw [upd_ne hb]; exact q3, q4, q5.mono0 sg⟩
  · exact r.inj j k _ _ b (old j zs e1).2 (old k ws e2).2 e3 e4
/-- a callee's own lists are forgotten -/
theorem Rel.cut {more : List Addr} (r : Rel K F (π ++ more) G H M) : Rel K F π G H (M.take π.length) := by
  have old : ∀ (j : Nat) (zs : List SV), (M.take π.length)[j]? = some (some zs) → j < π.length ∧ M[j]? = some (some zs) := by
    intro j zs e
    rw [List.getElem?_take] at e
    split at e
    · rename_i h; exact ⟨h, e⟩
    · cases e
  have at1 : ∀ {j : Nat} {a : Addr}, j < π.length → (π ++ more)[j]? = some a → π[j]? = some a := by
    intro j a hj e
    rw [List.getElem?_append_left hj] at e; exact e
  refine ⟨r.ex, r.fr, ?_, fun j zs e => ?_, fun j k zs ws b e1 e2 e3 e4 => ?_, fun j zs e => r.wf j zs (old j zs e).2⟩
  · have := r.len
    rw [List.length_append] at this
    rw [List.length_take]; omega
  · obtain ⟨hj, e'⟩ := old j zs e
    obtain ⟨b, ws, q1, q2, q3, q4, q5⟩ := r.mem j zs e'
    refine ⟨b, ws, at1 hj q1, q2, q3, q4, ?_⟩
    have hz : ∀ k : Nat, SV.cel k ∈ zs → k < π.length := fun k hk => Nat.lt_trans (r.wf j zs e' k hk) hj
    clear e e' q4
    induction q5 with
    | nil => exact .nil
    | cons h _ ih =>
      refine .cons ?_ (ih (fun k hk => hz k (List.mem_cons_of_mem _ hk)))
      cases h with
      | dat h => exact .dat h
      | cel h => exact .cel (at1 (hz _ List.mem_cons_self) h)
  · obtain ⟨hj, e1'⟩ := old j zs e1
    obtain ⟨hk, e2'⟩ := old k ws e2
    exact r.inj j k _ _ b e1' e2' (ix_app e3) (ix_app e4)
/-- a framed object -/
theorem Rel.frame (r : Rel K F π G H M) {p : Addr} {o : HO} (h : H p = none) : Rel K (upd F p o) π G (upd H p o) M := by
  have hg : G p = none := none_of_same r.ex h
  refine ⟨fun b x e => ?_, fun b x e => ?_, r.len, fun i xs e => ?_, r.inj, r.wf⟩
  · have hb : b ≠ p := fun z => by rw [z, hg] at e; cases e
    rw [upd_ne hb]; exact r.ex _ _ e
  · by_cases hb : b = p
    · subst hb; rw [upd_same] at e; cases e; exact ⟨upd_same, hg⟩
    · rw [upd_ne hb] at e
      rw [upd_ne hb]; exact r.fr _ _ e
  · obtain ⟨a, vs, h1, h2, h3, h4, h5⟩ := r.mem i xs e
    have hb : a ≠ p := ne_of_none h4 h
    exact ⟨a, vs, h1, by rw [upd_ne hb]; exact h2, h3, by rw [upd_ne hb]; exact h4, h5⟩
theorem Rel.framed (r : Rel K F π G H M) {p : Addr} {o o' : HO} (h : F p = some o) : Rel K (upd F p o') π G (upd H p o') M := by
  obtain ⟨_, hg⟩ := r.fr p o h
  refine ⟨fun b x e => ?_, fun b x e => ?_, r.len, fun i xs e => ?_, r.inj, r.wf⟩
  · have hb : b ≠ p := fun z => by rw [z, hg] at e; cases e
    rw [upd_ne hb]; exact r.ex _ _ e
  · by_cases hb : b = p
    · subst hb; rw [upd_same] at e; cases e; exact ⟨upd_same, hg⟩
    · rw [upd_ne hb] at e
      rw [upd_ne hb]; exact r.fr _ _ e
  · obtain ⟨a, vs, h1, h2, h3, h4, h5⟩ := r.mem i xs e
    have hb : a ≠ p := fun z => by rw [z, h] at h2; cases h2
    exact ⟨a, vs, h1, by rw [upd_ne hb]; exact h2, h3, by rw [upd_ne hb]; exact h4, h5⟩
theorem Rel.unframe {p : Addr} {o : HO} (r : Rel K (upd F p o) π G H M) (hF : F p = none) : Rel K F π (upd G p o) H M ∧ Same G (upd G p o) := by
  obtain ⟨hH, hg⟩ := r.fr p o upd_same
  have sg : Same G (upd G p o) := same_upd hg
  refine ⟨⟨fun b x e => ?_, fun b x e => ?_, r.len, fun i xs e => ?_, r.inj, r.wf⟩, sg⟩
  · by_cases hb : b = p
    · subst hb; rw [upd_same] at e; cases e; exact hH
    · rw [upd_ne hb] at e; exact r.ex _ _ e
  · have hb : b ≠ p := fun z => by rw [z, hF] at e; cases e
    rw [upd_ne hb]; exact r.fr _ _ (by rw [upd_ne hb]; exact e)
  · obtain ⟨a, vs, h1, h2, h3, h4, h5⟩ := r.mem i xs e
    have hb : a ≠ p := fun z => by rw [z, upd_same] at h2; cases h2
    rw [upd_ne hb] at h2
    exact ⟨a, vs, h1, h2, by rw [upd_ne hb]; exact h3, h4, h5.mono0 sg⟩
theorem Rel.frNone (r : Rel K F π G H M) {p : Addr} (h : H p = none) : F p = none := by
  cases q : F p with
  | none => rfl
  | some o => rw [(r.fr p o q).1] at h; cases h
end
end Sm

namespace Sm
open PySem PySem.Spec PyProof.Rows L2

abbrev SE := Rho → Mem → Option (SV × Mem)
abbrev SA := Rho → Mem → Option (List SV × Mem)
abbrev SB := Rho → Mem → Option (Bool × Mem)
abbrev SI := Rho → Mem → Option (List PyData × Mem)
abbrev SO := Rho → Mem → Option (Option Int × Mem)
abbrev SG := SV → Rho → Mem → Option (Rho × Mem)
abbrev SF := List SV → Mem → Option (SV × Mem)
inductive Ctl where
  | nx (ρ : Rho) (M : Mem)
  | rt (r : SV) (M : Mem)
  | bk (ρ : Rho) (M : Mem)
  | ct (ρ : Rho) (M : Mem)
abbrev SS := Rho → Mem → Option Ctl

/-- what was known stays known -/
structure Gr (π π' : List Addr) (G G' : Hp) : Prop where
  s : Same G G'
  p : ∃ more, π' = π ++ more
section
variable {K : PySem.W.Frag} {F : Hp} {π π' π'' : List Addr} {G H G' H' G'' : Hp} {M : Mem}
theorem Gr.refl : Gr π π G G := ⟨Same.refl G, [], (List.append_nil π).symm⟩
theorem Gr.trans (a : Gr π π' G G') (b : Gr π' π'' G' G'') : Gr π π'' G G'' := by
  obtain ⟨s, m, rfl⟩ := a
  obtain ⟨s', m', rfl⟩ := b
  exact ⟨s.trans s', m ++ m', by rw [List.append_assoc]⟩
theorem Gr.of (s : Same G G') : Gr π π G G' := ⟨s, [], (List.append_nil π).symm⟩
theorem Sv.gr (g : Gr π π' G G') {s : SV} {v : V} (h : Sv K π G s v) : Sv K π' G' s v := by
  obtain ⟨s, m, rfl⟩ := g; exact h.mono s
theorem Svs.gr (g : Gr π π' G G') {s : List SV} {v : List V} (h : Svs K π G s v) : Svs K π' G' s v := by
  obtain ⟨s, m, rfl⟩ := g; exact h.mono s
theorem Slots.gr (g : Gr π π' G G') {s : Rho} {v : L2.St} (h : Slots K π G s v) : Slots K π' G' s v := by
  obtain ⟨s, m, rfl⟩ := g; exact h.mono s
end

/-! ### a reading keeps to a plain function -/
def EvS (K : PySem.W.Frag) (t : TE) (e : SE) : Prop := ∀ ρ M r M', e ρ M = some (r, M') → ∀ F π G H σ, Rel K F π G H M → Slots K π G ρ σ →
  ∀ Q : VK, (∀ π' G' H' v, Gr π π' G G' → Rel K F π' G' H' M' → Sv K π' G' r v → Q v H') → t σ H Q
def EvA (K : PySem.W.Frag) (t : TA) (e : SA) : Prop := ∀ ρ M r M', e ρ M = some (r, M') → ∀ F π G H σ, Rel K F π G H M → Slots K π G ρ σ →
  ∀ Q : List V → Hp → Prop, (∀ π' G' H' v, Gr π π' G G' → Rel K F π' G' H' M' → Svs K π' G' r v → Q v H') → t σ H Q
def EvB (K : PySem.W.Frag) (t : TT) (e : SB) : Prop := ∀ ρ M r M', e ρ M = some (r, M') → ∀ F π G H σ, Rel K F π G H M → Slots K π G ρ σ →
  ∀ Q : Bool → Hp → Prop, (∀ π' G' H', Gr π π' G G' → Rel K F π' G' H' M' → Q r H') → t σ H Q
def EvO (K : PySem.W.Frag) (t : TO) (e : SO) : Prop := ∀ ρ M r M', e ρ M = some (r, M') → ∀ F π G H σ, Rel K F π G H M → Slots K π G ρ σ →
  ∀ Q : Option Int → Hp → Prop, (∀ π' G' H', Gr π π' G G' → Rel K F π' G' H' M' → Q r H') → t σ H Q
def EvG (K : PySem.W.Frag) (g : TG) (s : SG) : Prop := ∀ r ρ M ρ' M', s r ρ M = some (ρ', M') → ∀ F π G H v σ, Rel K F π G H M → Slots K π G ρ σ → Sv K π G r v →
  ∀ Q : L2.St → Hp → Prop, (∀ π' G' H' σ', Gr π π' G G' → Rel K F π' G' H' M' → Slots K π' G' ρ' σ' → Q σ' H') → g v σ H Q
/-- what an iterator gives -/
structure ItOk (K : PySem.W.Frag) (G : Hp) (J : It) (ds : List PyData) : Prop where
  go : ∀ i H, Same G H → i < ds.length → J.go i H
  stop : ∀ i H, Same G H → ds.length ≤ i → J.stop i H
  yld : ∀ i H x H' G2, Same G G2 → Same G2 H → J.yld i H x H' → i < ds.length → ∃ d G3, ds[i]? = some d ∧ Al G2 H G3 H' ∧ Dq K G3 x d
def EvI (K : PySem.W.Frag) (t : TI) (e : SI) : Prop := ∀ ρ M r M', e ρ M = some (r, M') → ∀ F π G H σ, Rel K F π G H M → Slots K π G ρ σ →
  ∀ R : It → Hp → Prop, (∀ π' G' H' J, Gr π π' G G' → Rel K F π' G' H' M' → ItOk K G' J r → R J H') → t σ H R
def EndOk (K : PySem.W.Frag) (F : Hp) (π : List Addr) (G : Hp) (D : Ends) : Ctl → Prop
  | .nx ρ M => ∀ π' G' H' σ', Gr π π' G G' → Rel K F π' G' H' M → Slots K π' G' ρ σ' → D.nx σ' H'
  | .rt r M => ∀ π' G' H' v, Gr π π' G G' → Rel K F π' G' H' M → Sv K π' G' r v → D.rt v H'
  | .bk ρ M => ∀ π' G' H' σ', Gr π π' G G' → Rel K F π' G' H' M → Slots K π' G' ρ σ' → D.bk σ' H'
  | .ct ρ M => ∀ π' G' H' σ', Gr π π' G G' → Rel K F π' G' H' M → Slots K π' G' ρ σ' → D.ct σ' H'
def EvT (K : PySem.W.Frag) (t : TS) (s : SS) : Prop := ∀ ρ M c, s ρ M = some c → ∀ F π G H σ, Rel K F π G H M → Slots K π G ρ σ → ∀ D, EndOk K F π G D c → t D σ H
theorem EndOk.gr {K : PySem.W.Frag} {F : Hp} {π π' : List Addr} {G G' : Hp} {D : Ends} (g : Gr π π' G G') : ∀ {c : Ctl}, EndOk K F π G D c → EndOk K F π' G' D c
  | .nx _ _, h => fun _ _ _ _ g' => h _ _ _ _ (g.trans g')
  | .rt _ _, h => fun _ _ _ _ g' => h _ _ _ _ (g.trans g')
  | .bk _ _, h => fun _ _ _ _ g' => h _ _ _ _ (g.trans g')
  | .ct _ _, h => fun _ _ _ _ g' => h _ _ _ _ (g.trans g')

/-- two values; one; a call on values -/
def OpS (K : PySem.W.Frag) (r : R2) (f : Mem → SV → SV → Option SV) : Prop := ∀ M x y z, f M x y = some z → ∀ F π G H v w, Rel K F π G H M → Sv K π G x v → Sv K π G y w →
  ∀ Q : VK, (∀ G' H' u, Al G H G' H' → Sv K π G' z u → Q u H') → r v w H Q
def UnS (K : PySem.W.Frag) (r : V → Hp → VK → Prop) (f : Mem → SV → Option SV) : Prop := ∀ M x z, f M x = some z → ∀ F π G H v, Rel K F π G H M → Sv K π G x v →
  ∀ Q : VK, (∀ G' H' u, Al G H G' H' → Sv K π G' z u → Q u H') → r v H Q
def CaS (K : PySem.W.Frag) (r : List V → Hp → VK → Prop) (f : Mem → List SV → Option SV) : Prop := ∀ M x z, f M x = some z → ∀ F π G H v, Rel K F π G H M → Svs K π G x v →
  ∀ Q : VK, (∀ G' H' u, Al G H G' H' → Sv K π G' z u → Q u H') → r v H Q
def SlS (K : PySem.W.Frag) (r : V → Option Int → Option Int → Hp → VK → Prop) (f : Mem → SV → Option Int → Option Int → Option SV) : Prop := ∀ M x l u z, f M x l u = some z → ∀ F π G H v, Rel K F π G H M → Sv K π G x v →
  ∀ Q : VK, (∀ G' H' u, Al G H G' H' → Sv K π G' z u → Q u H') → r v l u H Q

/-! ### the plain functions -/
def eVar (i : Nat) : SE := fun ρ M => match ρ[i]? with
  | some (some v) => some (v, M)
  | _ => none
def eC (d : PyData) : SE := fun _ M => some (.dat d, M)
def eOp (f : Mem → SV → SV → Option SV) (a b : SE) : SE := fun ρ M => (a ρ M).bind fun x => (b ρ x.2).bind fun y => (f y.2 x.1 y.1).bind fun z => some (z, y.2)
def eUn (f : Mem → SV → Option SV) (a : SE) : SE := fun ρ M => (a ρ M).bind fun x => (f x.2 x.1).bind fun z => some (z, x.2)
def eSl (f : Mem → SV → Option Int → Option Int → Option SV) (a : SE) (l u : SO) : SE := fun ρ M => (a ρ M).bind fun x => (l ρ x.2).bind fun y => (u ρ y.2).bind fun z => (f z.2 x.1 y.1 z.1).bind fun w => some (w, z.2)
def oNone : SO := fun _ M => some (none, M)
def oSome (a : SE) : SO := fun ρ M => (a ρ M).bind fun x => match x.1 with
  | .dat (.int i) => some (some i, x.2)
  | _ => none
def aNil : SA := fun _ M => some ([], M)
def aCons (a : SE) (as : SA) : SA := fun ρ M => (a ρ M).bind fun x => (as ρ x.2).bind fun xs => some (x.1 :: xs.1, xs.2)
def eCB (f : Mem → List SV → Option SV) (a : SA) : SE := fun ρ M => (a ρ M).bind fun x => (f x.2 x.1).bind fun z => some (z, x.2)
def eCall (f : SF) (a : SA) : SE := fun ρ M => (a ρ M).bind fun x => f x.1 x.2
/-- all of them data -/
def dats : List SV → Option (List PyData)
  | [] => some []
  | .dat d :: r => (dats r).bind fun ds => some (d :: ds)
  | _ :: _ => none
def eTup (a : SA) : SE := fun ρ M => (a ρ M).bind fun x => (dats x.1).bind fun ds => if ds.length ≤ 100000 then some (.dat (.tuple ds), x.2) else none
def eLst (a : SA) : SE := fun ρ M => (a ρ M).bind fun x => (dats x.1).bind fun ds => if ds.length ≤ 100000 then some (.dat (.list ds), x.2) else none
/-- a list that may change -/
def eNew (a : SA) : SE := fun ρ M => (a ρ M).bind fun x => if x.1.length ≤ 100000 then some (.cel x.2.length, x.2 ++ [some x.1]) else none
def bVal (a : SE) : SB := fun ρ M => (a ρ M).bind fun x => match x.1 with
  | .dat (.bool b) => some (b, x.2)
  | _ => none
def bAnd (a b : SB) : SB := fun ρ M => (a ρ M).bind fun x => if x.1 = true then b ρ x.2 else some (false, x.2)
def bOr (a b : SB) : SB := fun ρ M => (a ρ M).bind fun x => if x.1 = true then some (true, x.2) else b ρ x.2
def bNot (a : SB) : SB := fun ρ M => (a ρ M).bind fun x => some (!x.1, x.2)
def eAnd (a b : SE) : SE := fun ρ M => (a ρ M).bind fun x => match x.1 with
  | .dat (.bool c) => if c = true then b ρ x.2 else some (.dat (.bool false), x.2)
  | _ => none
def eOr (a b : SE) : SE := fun ρ M => (a ρ M).bind fun x => match x.1 with
  | .dat (.bool c) => if c = true then some (.dat (.bool true), x.2) else b ρ x.2
  | _ => none
def eNot (a : SE) : SE := fun ρ M => (a ρ M).bind fun x => match x.1 with
  | .dat (.bool c) => some (.dat (.bool (!c)), x.2)
  | _ => none
def eIf (c : SB) (a b : SE) : SE := fun ρ M => (c ρ M).bind fun x => if x.1 = true then a ρ x.2 else b ρ x.2
def eChain (f f' : Mem → SV → SV → Option SV) (a b c : SE) : SE := fun ρ M => (a ρ M).bind fun x => (b ρ x.2).bind fun y => (f y.2 x.1 y.1).bind fun z => match z with
  | .dat (.bool k) => if k = true then (c ρ y.2).bind fun w => (f' w.2 y.1 w.1).bind fun u => some (u, w.2) else some (.dat (.bool false), y.2)
  | _ => none

section
variable {K : PySem.W.Frag} {ta tb tc : TE} {a b c : SE}
theorem ev_var {i : Nat} : EvS K (tVar i) (eVar i) := by
  intro ρ M r M' h F π G H σ R S Q q
  unfold eVar at h
  split at h
  · rename_i v e
    cases h
    obtain ⟨y, h1, h2⟩ := S.get e
    exact ⟨y, h1, q π G H y Gr.refl R h2⟩
  · cases h
theorem ev_c {v : V} {d : PyData} (hd : ∀ G, Dq K G v d) : EvS K (tC v) (eC d) := by
  intro ρ M r M' h F π G H σ R S Q q
  cases h
  exact q π G H v Gr.refl R (.dat (hd G))
theorem ev_op {r : R2} {f : Mem → SV → SV → Option SV} (ha : EvS K ta a) (hb : EvS K tb b) (ho : OpS K r f) : EvS K (tOp r ta tb) (eOp f a b) := by
  intro ρ M z M' h F π G H σ R S Q q
  unfold eOp at h
  obtain ⟨⟨x, M1⟩, h1, h⟩ := Option.bind_eq_some_iff.mp h
  obtain ⟨⟨y, M2⟩, h2, h⟩ := Option.bind_eq_some_iff.mp h
  obtain ⟨z', h3, h⟩ := Option.bind_eq_some_iff.mp h
  cases h
  refine ha ρ M x M1 h1 F π G H σ R S _ fun π1 G1 H1 v1 g1 R1 s1 => ?_
  refine hb ρ M1 y M2 h2 F π1 G1 H1 σ R1 (S.gr g1) _ fun π2 G2 H2 v2 g2 R2 s2 => ?_
  exact ho M2 x y z h3 F π2 G2 H2 v1 v2 R2 (s1.gr g2) s2 Q fun G3 H3 u al s3 => q π2 G3 H3 u ((g1.trans g2).trans (.of (R2.alSame al))) (R2.al al) s3
theorem ev_un {r : V → Hp → VK → Prop} {f : Mem → SV → Option SV} (ha : EvS K ta a) (ho : UnS K r f) : EvS K (tUn r ta) (eUn f a) := by
  intro ρ M z M' h F π G H σ R S Q q
  unfold eUn at h
  obtain ⟨⟨x, M1⟩, h1, h⟩ := Option.bind_eq_some_iff.mp h
  obtain ⟨z', h3, h⟩ := Option.bind_eq_some_iff.mp h
  cases h
  refine ha ρ M x M1 h1 F π G H σ R S _ fun π1 G1 H1 v1 g1 R1 s1 => ?_
  exact ho M1 x z h3 F π1 G1 H1 v1 R1 s1 Q fun G3 H3 u al s3 => q π1 G3 H3 u (g1.trans (.of (R1.alSame al))) (R1.al al) s3
theorem ev_oNone : EvO K tNoPart oNone := by
  intro ρ M z M' h F π G H σ R S Q q
  cases h
  exact q π G H Gr.refl R
theorem ev_oSome (ha : EvS K ta a) : EvO K (tPart ta) (oSome a) := by
  intro ρ M z M' h F π G H σ R S Q q
  unfold oSome at h
  obtain ⟨⟨x, M1⟩, h1, h⟩ := Option.bind_eq_some_iff.mp h
  refine ha ρ M x M1 h1 F π G H σ R S _ fun π1 G1 H1 v1 g1 R1 s1 => ?_
  cases s1 with
  | dat hd =>
    cases hd with
    | int i =>
      cases h
      exact ⟨i, rfl, q π1 G1 H1 g1 R1⟩
    | _ => cases h
  | cel _ => cases h
theorem ev_sl {r : V → Option Int → Option Int → Hp → VK → Prop} {f : Mem → SV → Option Int → Option Int → Option SV} {tl tu : TO} {l u : SO} (ha : EvS K ta a) (hl : EvO K tl l) (hu : EvO K tu u) (ho : SlS K r f) : EvS K (tSl r ta tl tu) (eSl f a l u) := by
  intro ρ M z M' h F π G H σ R S Q q
  unfold eSl at h
  obtain ⟨⟨x, M1⟩, h1, h⟩ := Option.bind_eq_some_iff.mp h
  obtain ⟨⟨y, M2⟩, h2, h⟩ := Option.bind_eq_some_iff.mp h
  obtain ⟨⟨w, M3⟩, h3, h⟩ := Option.bind_eq_some_iff.mp h
  obtain ⟨z', h4, h⟩ := Option.bind_eq_some_iff.mp h
  cases h
  refine ha ρ M x M1 h1 F π G H σ R S _ fun π1 G1 H1 v1 g1 R1 s1 => ?_
  refine hl ρ M1 y M2 h2 F π1 G1 H1 σ R1 (S.gr g1) _ fun π2 G2 H2 g2 R2 => ?_
  refine hu ρ M2 w M3 h3 F π2 G2 H2 σ R2 (S.gr (g1.trans g2)) _ fun π3 G3 H3 g3 R3 => ?_
  exact ho M3 x y w z h4 F π3 G3 H3 v1 R3 (s1.gr (g2.trans g3)) Q fun G4 H4 u al s3 => q π3 G4 H4 u (((g1.trans g2).trans g3).trans (.of (R3.alSame al))) (R3.al al) s3
theorem ea_nil : EvA K tNil aNil := by
  intro ρ M z M' h F π G H σ R S Q q
  cases h
  exact q π G H [] Gr.refl R .nil
theorem ea_cons {t : TA} {as : SA} (ha : EvS K ta a) (hs : EvA K t as) : EvA K (tCons ta t) (aCons a as) := by
  intro ρ M z M' h F π G H σ R S Q q
  unfold aCons at h
  obtain ⟨⟨x, M1⟩, h1, h⟩ := Option.bind_eq_some_iff.mp h
  obtain ⟨⟨y, M2⟩, h2, h⟩ := Option.bind_eq_some_iff.mp h
  cases h
  refine ha ρ M x M1 h1 F π G H σ R S _ fun π1 G1 H1 v1 g1 R1 s1 => ?_
  refine hs ρ M1 y M2 h2 F π1 G1 H1 σ R1 (S.gr g1) _ fun π2 G2 H2 v2 g2 R2 s2 => ?_
  exact q π2 G2 H2 _ (g1.trans g2) R2 (.cons (s1.gr g2) s2)
theorem ev_cb {r : List V → Hp → VK → Prop} {f : Mem → List SV → Option SV} {t : TA} {as : SA} (hs : EvA K t as) (ho : CaS K r f) : EvS K (tCB r t) (eCB f as) := by
  intro ρ M z M' h F π G H σ R S Q q
  unfold eCB at h
  obtain ⟨⟨x, M1⟩, h1, h⟩ := Option.bind_eq_some_iff.mp h
  obtain ⟨z', h3, h⟩ := Option.bind_eq_some_iff.mp h
  cases h
  refine hs ρ M x M1 h1 F π G H σ R S _ fun π1 G1 H1 v1 g1 R1 s1 => ?_
  exact ho M1 x z h3 F π1 G1 H1 v1 R1 s1 Q fun G3 H3 u al s3 => q π1 G3 H3 u (g1.trans (.of (R1.alSame al))) (R1.al al) s3
theorem dats_all {π : List Addr} {G : Hp} : ∀ {xs : List SV} {ds : List PyData} {vs : List V}, dats xs = some ds → Svs K π G xs vs → DqAll K G vs ds
  | [], _, _, h, .nil => by cases h; exact .nil
  | .dat d :: r, ds, _, h, .cons s t => by
    unfold dats at h
    obtain ⟨es, h1, h⟩ := Option.bind_eq_some_iff.mp h
    cases h
    cases s with
    | dat hd => exact .cons hd (dats_all h1 t)
  | .cel _ :: _, _, _, h, _ => by simp [dats] at h
theorem sz {n : Nat} (h : n ≤ 100000) : n ≤ sizeLine := Nat.le_trans h (by decide)
theorem szl {n : Nat} (h : n < 100000) : n < sizeLine := Nat.lt_of_lt_of_le h (by decide)
theorem ev_tup {t : TA} {as : SA} (hs : EvA K t as) : EvS K (tTup t) (eTup as) := by
  intro ρ M z M' h F π G H σ R S Q q
  unfold eTup at h
  obtain ⟨⟨x, M1⟩, h1, h⟩ := Option.bind_eq_some_iff.mp h
  obtain ⟨ds, h2, h⟩ := Option.bind_eq_some_iff.mp h
  split at h
  · rename_i hz
    cases h
    refine hs ρ M x M1 h1 F π G H σ R S _ fun π1 G1 H1 v1 g1 R1 s1 => ?_
    have hd := dats_all h2 s1
    refine ⟨sz (by rw [hd.length]; exact hz), fun p hp => ?_⟩
    have al : Al G1 H1 (upd G1 p (.tup v1)) (upd H1 p (.tup v1)) := .new hp
    exact q π1 _ _ _ (g1.trans (.of (R1.alSame al))) (R1.al al) (.dat (.tup (SqT.of upd_same) (hd.mono (R1.alSame al))))
  · cases h
theorem ev_lst {t : TA} {as : SA} (hs : EvA K t as) : EvS K (tLst t) (eLst as) := by
  intro ρ M z M' h F π G H σ R S Q q
  unfold eLst at h
  obtain ⟨⟨x, M1⟩, h1, h⟩ := Option.bind_eq_some_iff.mp h
  obtain ⟨ds, h2, h⟩ := Option.bind_eq_some_iff.mp h
  split at h
  · rename_i hz
    cases h
    refine hs ρ M x M1 h1 F π G H σ R S _ fun π1 G1 H1 v1 g1 R1 s1 => ?_
    have hd := dats_all h2 s1
    refine ⟨sz (by rw [hd.length]; exact hz), fun p hp => ?_⟩
    have al : Al G1 H1 (upd G1 p (.lst v1)) (upd H1 p (.lst v1)) := .new hp
    exact q π1 _ _ _ (g1.trans (.of (R1.alSame al))) (R1.al al) (.dat (.lst (SqL.of upd_same) (hd.mono (R1.alSame al))))
  · cases h
theorem ev_new {t : TA} {as : SA} (hs : EvA K t as) : EvS K (tLst t) (eNew as) := by
  intro ρ M z M' h F π G H σ R S Q q
  unfold eNew at h
  obtain ⟨⟨x, M1⟩, h1, h⟩ := Option.bind_eq_some_iff.mp h
  split at h
  · rename_i hz
    cases h
    refine hs ρ M x M1 h1 F π G H σ R S _ fun π1 G1 H1 v1 g1 R1 s1 => ?_
    refine ⟨sz (by rw [← s1.length]; exact hz), fun p hp => ?_⟩
    refine q (π1 ++ [p]) G1 _ _ (g1.trans ⟨Same.refl G1, [p], rfl⟩) (R1.push hp s1) (.cel ?_)
    show (π1 ++ [p])[M1.length]? = some p
    rw [List.getElem?_append_right (by rw [R1.len]; exact Nat.le_refl _), R1.len, Nat.sub_self]; rfl
  · cases h
theorem eb_B (ha : EvS K ta a) : EvB K (tB ta) (bVal a) := by
  intro ρ M z M' h F π G H σ R S Q q
  unfold bVal at h
  obtain ⟨⟨x, M1⟩, h1, h⟩ := Option.bind_eq_some_iff.mp h
  refine ha ρ M x M1 h1 F π G H σ R S _ fun π1 G1 H1 v1 g1 R1 s1 => ?_
  cases s1 with
  | dat hd =>
    cases hd with
    | bl i =>
      cases h
      exact ⟨_, rfl, q π1 G1 H1 g1 R1⟩
    | _ => cases h
  | cel _ => cases h
theorem eb_test (ha : EvS K ta a) : EvB K (tTest ta) (bVal a) := eb_B ha
theorem eb_tru (ha : EvS K ta a) : EvB K (fun σ H Q => ta σ H fun x H' => ∃ k, TruV K x H' k ∧ Q k H') (bVal a) := by
  intro ρ M z M' h F π G H σ R S Q q
  unfold bVal at h
  obtain ⟨⟨x, M1⟩, h1, h⟩ := Option.bind_eq_some_iff.mp h
  refine ha ρ M x M1 h1 F π G H σ R S _ fun π1 G1 H1 v1 g1 R1 s1 => ?_
  cases s1 with
  | dat hd =>
    cases hd with
    | bl i =>
      cases h
      exact ⟨_, rfl, q π1 G1 H1 g1 R1⟩
    | _ => cases h
  | cel _ => cases h
theorem eb_and {tt tu : TT} {x y : SB} (ha : EvB K tt x) (hb : EvB K tu y) : EvB K (tAnd tt tu) (bAnd x y) := by
  intro ρ M z M' h F π G H σ R S Q q
  unfold bAnd at h
  obtain ⟨⟨v, M1⟩, h1, h⟩ := Option.bind_eq_some_iff.mp h
  refine ha ρ M v M1 h1 F π G H σ R S _ fun π1 G1 H1 g1 R1 => ?_
  cases v with
  | true =>
    rw [if_pos rfl]
    exact hb ρ M1 z M' h F π1 G1 H1 σ R1 (S.gr g1) _ fun π2 G2 H2 g2 R2 => q π2 G2 H2 (g1.trans g2) R2
  | false =>
    cases h
    rw [if_neg Bool.false_ne_true]
    exact q π1 G1 H1 g1 R1
theorem eb_or {tt tu : TT} {x y : SB} (ha : EvB K tt x) (hb : EvB K tu y) : EvB K (tOr tt tu) (bOr x y) := by
  intro ρ M z M' h F π G H σ R S Q q
  unfold bOr at h
  obtain ⟨⟨v, M1⟩, h1, h⟩ := Option.bind_eq_some_iff.mp h
  refine ha ρ M v M1 h1 F π G H σ R S _ fun π1 G1 H1 g1 R1 => ?_
  cases v with
  | false =>
    rw [if_neg Bool.false_ne_true]
    exact hb ρ M1 z M' h F π1 G1 H1 σ R1 (S.gr g1) _ fun π2 G2 H2 g2 R2 => q π2 G2 H2 (g1.trans g2) R2
  | true =>
    cases h
    rw [if_pos rfl]
    exact q π1 G1 H1 g1 R1
theorem eb_not {tt : TT} {x : SB} (ha : EvB K tt x) : EvB K (tNot tt) (bNot x) := by
  intro ρ M z M' h F π G H σ R S Q q
  unfold bNot at h
  obtain ⟨⟨v, M1⟩, h1, h⟩ := Option.bind_eq_some_iff.mp h
  cases h
  exact ha ρ M v _ h1 F π G H σ R S _ fun π1 G1 H1 g1 R1 => q π1 G1 H1 g1 R1
theorem ev_and (ha : EvS K ta a) (hb : EvS K tb b) : EvS K (tAndV ta tb) (eAnd a b) := by
  intro ρ M z M' h F π G H σ R S Q q
  unfold eAnd at h
  obtain ⟨⟨x, M1⟩, h1, h⟩ := Option.bind_eq_some_iff.mp h
  refine ha ρ M x M1 h1 F π G H σ R S _ fun π1 G1 H1 v1 g1 R1 s1 => ?_
  cases s1 with
  | dat hd =>
    cases hd with
    | bl i =>
      refine ⟨i, rfl, ?_⟩
      cases i with
      | true =>
        rw [if_pos rfl]
        exact hb ρ M1 z M' h F π1 G1 H1 σ R1 (S.gr g1) _ fun π2 G2 H2 v g2 R2 s2 => q π2 G2 H2 v (g1.trans g2) R2 s2
      | false =>
        rw [if_neg Bool.false_ne_true]
        cases h
        exact q π1 G1 H1 _ g1 R1 (.dat (.bl false))
    | _ => cases h
  | cel _ => cases h
theorem ev_or (ha : EvS K ta a) (hb : EvS K tb b) : EvS K (tOrV ta tb) (eOr a b) := by
  intro ρ M z M' h F π G H σ R S Q q
  unfold eOr at h
  obtain ⟨⟨x, M1⟩, h1, h⟩ := Option.bind_eq_some_iff.mp h
  refine ha ρ M x M1 h1 F π G H σ R S _ fun π1 G1 H1 v1 g1 R1 s1 => ?_
  cases s1 with
  | dat hd =>
    cases hd with
    | bl i =>
      refine ⟨i, rfl, ?_⟩
      cases i with
      | false =>
        rw [if_neg Bool.false_ne_true]
        exact hb ρ M1 z M' h F π1 G1 H1 σ R1 (S.gr g1) _ fun π2 G2 H2 v g2 R2 s2 => q π2 G2 H2 v (g1.trans g2) R2 s2
      | true =>
        rw [if_pos rfl]
        cases h
        exact q π1 G1 H1 _ g1 R1 (.dat (.bl true))
    | _ => cases h
  | cel _ => cases h
theorem ev_not (ha : EvS K ta a) : EvS K (tNotV ta) (eNot a) := by
  intro ρ M z M' h F π G H σ R S Q q
  unfold eNot at h
  obtain ⟨⟨x, M1⟩, h1, h⟩ := Option.bind_eq_some_iff.mp h
  refine ha ρ M x M1 h1 F π G H σ R S _ fun π1 G1 H1 v1 g1 R1 s1 => ?_
  cases s1 with
  | dat hd =>
    cases hd with
    | bl i =>
      cases h
      exact ⟨i, rfl, q π1 G1 H1 _ g1 R1 (.dat (.bl _))⟩
    | _ => cases h
  | cel _ => cases h
theorem ev_if {tt : TT} {x : SB} (hc : EvB K tt x) (ha : EvS K ta a) (hb : EvS K tb b) : EvS K (tIf tt ta tb) (eIf x a b) := by
  intro ρ M z M' h F π G H σ R S Q q
  unfold eIf at h
  obtain ⟨⟨v, M1⟩, h1, h⟩ := Option.bind_eq_some_iff.mp h
  refine hc ρ M v M1 h1 F π G H σ R S _ fun π1 G1 H1 g1 R1 => ?_
  cases v with
  | true =>
    rw [if_pos rfl]
    exact ha ρ M1 z M' h F π1 G1 H1 σ R1 (S.gr g1) _ fun π2 G2 H2 v g2 R2 s2 => q π2 G2 H2 v (g1.trans g2) R2 s2
  | false =>
    rw [if_neg Bool.false_ne_true]
    exact hb ρ M1 z M' h F π1 G1 H1 σ R1 (S.gr g1) _ fun π2 G2 H2 v g2 R2 s2 => q π2 G2 H2 v (g1.trans g2) R2 s2
theorem ev_chain {r r' : R2} {f f' : Mem → SV → SV → Option SV} (ha : EvS K ta a) (hb : EvS K tb b) (hc : EvS K tc c) (ho : OpS K r f) (ho' : OpS K r' f') : EvS K (tChain r r' ta tb tc) (eChain f f' a b c) := by
  intro ρ M z M' h F π G H σ R S Q q
  unfold eChain at h
  obtain ⟨⟨x, M1⟩, h1, h⟩ := Option.bind_eq_some_iff.mp h
  obtain ⟨⟨y, M2⟩, h2, h⟩ := Option.bind_eq_some_iff.mp h
  obtain ⟨z', h3, h⟩ := Option.bind_eq_some_iff.mp h
  refine ha ρ M x M1 h1 F π G H σ R S _ fun π1 G1 H1 v1 g1 R1 s1 => ?_
  refine hb ρ M1 y M2 h2 F π1 G1 H1 σ R1 (S.gr g1) _ fun π2 G2 H2 v2 g2 R2 s2 => ?_
  refine ho M2 x y z' h3 F π2 G2 H2 v1 v2 R2 (s1.gr g2) s2 _ fun G3 H3 u al s3 => ?_
  have g3 := (g1.trans g2).trans (Gr.of (R2.alSame al))
  have R3 := R2.al al
  cases s3 with
  | dat hd =>
    cases hd with
    | bl i =>
      refine ⟨i, rfl, ?_⟩
      cases i with
      | true =>
        rw [if_pos rfl]
        dsimp only at h
        rw [if_pos rfl] at h
        obtain ⟨⟨w, M3⟩, h4, h⟩ := Option.bind_eq_some_iff.mp h
        obtain ⟨u', h5, h⟩ := Option.bind_eq_some_iff.mp h
        cases h
        refine hc ρ M2 w M3 h4 F π2 G3 H3 σ R3 (S.gr g3) _ fun π4 G4 H4 v4 g4 R4 s4 => ?_
        exact ho' M3 y w _ h5 F π4 G4 H4 v2 v4 R4 ((s2.gr (Gr.of (R2.alSame al))).gr g4) s4 Q fun G5 H5 u al s5 => q π4 G5 H5 u ((g3.trans g4).trans (.of (R4.alSame al))) (R4.al al) s5
      | false =>
        rw [if_neg Bool.false_ne_true]
        cases h
        exact q π2 G3 H3 _ g3 R3 (.dat (.bl false))
    | _ => cases h
  | cel _ => cases h
end
end Sm

namespace Sm
open PySem PySem.Spec PyProof.Rows L2

/-! ### targets -/
def gNm (i : Nat) : SG := fun r ρ M => some (ρ.set i (some r), M)
/-- a tuple's parts to names -/
def setAll : List Nat → List PyData → Rho → Rho
  | i :: is, d :: ds, ρ => setAll is ds (ρ.set i (some (.dat d)))
  | _, _, ρ => ρ
def gTp (is : List Nat) : SG := fun r ρ M => match r with
  | .dat (.tuple ds) => if ds.length = is.length then some (setAll is ds ρ, M) else none
  | _ => none
def gNames : List Nat → TGs
  | [] => gNil
  | i :: is => gCons (gName i) (gNames is)
/-- x[i] = v -/
def gStore (o i : SE) : SG := fun r ρ M => (o ρ M).bind fun x => (i ρ x.2).bind fun y => match x.1, y.1 with
  | .cel c, .dat (.int k) => match y.2[c]?, r with
    | some (some xs), .dat d => (ixN xs.length k).bind fun j => some (ρ, y.2.set c (some (xs.set j (.dat d))))
    | _, _ => none
  | _, _ => none

section
variable {K : PySem.W.Frag}
theorem eg_name {i : Nat} : EvG K (gName i) (gNm i) := by
  intro r ρ M ρ' M' h F π G H v σ R S s Q q
  cases h
  exact q π G H _ Gr.refl R (S.set s i)
theorem eg_names : ∀ {is : List Nat} {ds : List PyData} {vs : List V} {ρ : Rho} {π : List Addr} {G H : Hp} {σ : L2.St} {Q : L2.St → Hp → Prop}, ds.length = is.length → DqAll K G vs ds → Slots K π G ρ σ →
    (∀ σ', Slots K π G (setAll is ds ρ) σ' → Q σ' H) → gNames is vs σ H Q
  | [], [], _, _, _, _, _, _, _, _, .nil, S, q => ⟨rfl, q _ S⟩
  | i :: is, d :: ds, _, _, _, _, _, _, _, hl, .cons h r, S, q => ⟨_, _, rfl, eg_names (by simpa using hl) r (S.set (.dat h) i) q⟩
  | [], _ :: _, _, _, _, _, _, _, _, hl, _, _, _ => by simp at hl
  | _ :: _, [], _, _, _, _, _, _, _, hl, _, _, _ => by simp at hl
theorem eg_tup {is : List Nat} {n : Nat} (hn : n = is.length) : EvG K (gTup K n (gNames is)) (gTp is) := by
  intro r ρ M ρ' M' h F π G H v σ R S s Q q
  subst hn
  unfold gTp at h
  cases s with
  | cel _ => cases h
  | dat hd =>
    cases hd with
    | @tup a xs ds hs ha =>
      dsimp only at h
      split at h
      · rename_i hl
        cases h
        exact ⟨a, xs, rfl, same_sqT R.ex hs, by rw [ha.length, hl], eg_names hl ha S fun σ' S' => q π G H σ' Gr.refl R S'⟩
      · cases h
    | _ => cases h
theorem eg_store {to ti : TE} {o i : SE} (ho : EvS K to o) (hi : EvS K ti i) : EvG K (gSub to ti rSetL) (gStore o i) := by
  intro r ρ M ρ' M' h F π G H v σ R S s Q q
  unfold gStore at h
  obtain ⟨⟨x, M1⟩, h1, h⟩ := Option.bind_eq_some_iff.mp h
  obtain ⟨⟨y, M2⟩, h2, h⟩ := Option.bind_eq_some_iff.mp h
  refine ho ρ M x M1 h1 F π G H σ R S _ fun π1 G1 H1 v1 g1 R1 s1 => ?_
  refine hi ρ M1 y M2 h2 F π1 G1 H1 σ R1 (S.gr g1) _ fun π2 G2 H2 v2 g2 R2 s2 => ?_
  have s1' := s1.gr g2
  cases s1' with
  | dat _ => cases h
  | @cel c a ha =>
    cases s2 with
    | cel _ => cases h
    | dat hd =>
      cases hd with
      | int k =>
        cases s with
        | cel _ =>
          dsimp only at h
          split at h
          · rename_i z; cases z
          · cases h
        | @dat d _ hd =>
        have s : Sv K π G (.dat d) v := .dat hd
        dsimp only at h
        split at h
        · rename_i xs d' hx hdd
          cases hdd
          obtain ⟨j, h3, h⟩ := Option.bind_eq_some_iff.mp h
          cases h
          obtain ⟨a', vs, q1, q2, q3, q4, q5⟩ := R2.mem c xs hx
          rw [ha] at q1; cases q1
          refine ⟨a, vs, k, j, rfl, rfl, q4, by rw [← q5.length]; exact h3, ?_⟩
          refine q π2 G2 _ σ (g1.trans g2) (R2.write hx ha (q5.set (s.gr (g1.trans g2)) j) fun i hi => ?_) (S.gr (g1.trans g2))
          rcases List.mem_or_eq_of_mem_set hi with z | z
          · exact z
          · cases z
        · cases h
      | _ => cases h

/-! ### statements -/
def sNext : SS := fun ρ M => some (.nx ρ M)
def sSeq (s u : SS) : SS := fun ρ M => (s ρ M).bind fun c => match c with
  | .nx ρ' M' => u ρ' M'
  | c => some c
def sAsg (e : SE) (g : SG) : SS := fun ρ M => (e ρ M).bind fun x => (g x.1 ρ x.2).bind fun y => some (.nx y.1 y.2)
def sExpr (e : SE) : SS := fun ρ M => (e ρ M).bind fun x => some (.nx ρ x.2)
def sRet (e : SE) : SS := fun ρ M => (e ρ M).bind fun x => some (.rt x.1 x.2)
def sRetN : SS := fun _ M => some (.rt (.dat .none) M)
def sIf (c : SB) (s u : SS) : SS := fun ρ M => (c ρ M).bind fun x => if x.1 = true then s ρ x.2 else u ρ x.2
def sBrk : SS := fun ρ M => some (.bk ρ M)
def sCnt : SS := fun ρ M => some (.ct ρ M)
def loop (g : SG) (body : SS) : List PyData → SS
  | [] => fun ρ M => some (.nx ρ M)
  | d :: ds => fun ρ M => (g (.dat d) ρ M).bind fun y => (body y.1 y.2).bind fun c => match c with
    | .nx ρ2 M2 => loop g body ds ρ2 M2
    | .ct ρ2 M2 => loop g body ds ρ2 M2
    | .bk ρ2 M2 => some (.nx ρ2 M2)
    | .rt r M2 => some (.rt r M2)
def sFor (it : SI) (g : SG) (body : SS) : SS := fun ρ M => (it ρ M).bind fun x => loop g body x.1 ρ x.2
def whl (c : SB) (body : SS) : Nat → SS
  | 0 => fun _ _ => none
  | n + 1 => fun ρ M => (c ρ M).bind fun x => if x.1 = true then (body ρ x.2).bind fun k => match k with
      | .nx ρ2 M2 => whl c body n ρ2 M2
      | .ct ρ2 M2 => whl c body n ρ2 M2
      | .bk ρ2 M2 => some (.nx ρ2 M2)
      | .rt r M2 => some (.rt r M2)
    else some (.nx ρ x.2)

variable {ta : TE} {a : SE} {t u : TS} {s s' : SS}
theorem et_next : EvT K tNext sNext := by
  intro ρ M c h F π G H σ R S D q
  cases h
  exact q π G H σ Gr.refl R S
theorem et_brk : EvT K tBreak sBrk := by
  intro ρ M c h F π G H σ R S D q
  cases h
  exact q π G H σ Gr.refl R S
theorem et_cnt : EvT K tCont sCnt := by
  intro ρ M c h F π G H σ R S D q
  cases h
  exact q π G H σ Gr.refl R S
theorem et_seq (h1 : EvT K t s) (h2 : EvT K u s') : EvT K (tSeq t u) (sSeq s s') := by
  intro ρ M c h F π G H σ R S D q
  unfold sSeq at h
  obtain ⟨k, e, h⟩ := Option.bind_eq_some_iff.mp h
  refine h1 ρ M k e F π G H σ R S _ ?_
  cases k with
  | nx ρ' M' => exact fun π' G' H' σ' g R' S' => h2 ρ' M' c h F π' G' H' σ' R' S' D (q.gr g)
  | rt r M' => cases h; exact q
  | bk ρ' M' => cases h; exact q
  | ct ρ' M' => cases h; exact q
theorem et_asg {g : TG} {sg : SG} (he : EvS K ta a) (hg : EvG K g sg) : EvT K (tAsg ta g) (sAsg a sg) := by
  intro ρ M c h F π G H σ R S D q
  unfold sAsg at h
  obtain ⟨⟨x, M1⟩, h1, h⟩ := Option.bind_eq_some_iff.mp h
  obtain ⟨⟨ρ', M2⟩, h2, h⟩ := Option.bind_eq_some_iff.mp h
  cases h
  refine he ρ M x M1 h1 F π G H σ R S _ fun π1 G1 H1 v1 g1 R1 s1 => ?_
  exact hg x ρ M1 ρ' M2 h2 F π1 G1 H1 v1 σ R1 (S.gr g1) s1 _ fun π2 G2 H2 σ2 g2 R2 S2 => q π2 G2 H2 σ2 (g1.trans g2) R2 S2
theorem et_expr (he : EvS K ta a) : EvT K (tDrop ta) (sExpr a) := by
  intro ρ M c h F π G H σ R S D q
  unfold sExpr at h
  obtain ⟨⟨x, M1⟩, h1, h⟩ := Option.bind_eq_some_iff.mp h
  cases h
  exact he ρ M x M1 h1 F π G H σ R S _ fun π1 G1 H1 v1 g1 R1 s1 => q π1 G1 H1 σ g1 R1 (S.gr g1)
theorem et_ret (he : EvS K ta a) : EvT K (tRet ta) (sRet a) := by
  intro ρ M c h F π G H σ R S D q
  unfold sRet at h
  obtain ⟨⟨x, M1⟩, h1, h⟩ := Option.bind_eq_some_iff.mp h
  cases h
  exact he ρ M x M1 h1 F π G H σ R S _ fun π1 G1 H1 v1 g1 R1 s1 => q π1 G1 H1 v1 g1 R1 s1
theorem et_retN : EvT K tRetN sRetN := by
  intro ρ M c h F π G H σ R S D q
  cases h
  exact q π G H _ Gr.refl R (.dat .non)
theorem et_if {tc : TT} {b : SB} (hc : EvB K tc b) (h1 : EvT K t s) (h2 : EvT K u s') : EvT K (tIfS tc t u) (sIf b s s') := by
  intro ρ M c h F π G H σ R S D q
  unfold sIf at h
  obtain ⟨⟨v, M1⟩, e, h⟩ := Option.bind_eq_some_iff.mp h
  refine hc ρ M v M1 e F π G H σ R S _ fun π1 G1 H1 g1 R1 => ?_
  cases v with
  | true =>
    rw [if_pos rfl]
    exact h1 ρ M1 c h F π1 G1 H1 σ R1 (S.gr g1) D (q.gr g1)
  | false =>
    rw [if_neg Bool.false_ne_true]
    exact h2 ρ M1 c h F π1 G1 H1 σ R1 (S.gr g1) D (q.gr g1)
theorem et_for {wi : TI} {g : TG} {it : SI} {sg : SG} (hi : EvI K wi it) (hg : EvG K g sg) (hb : EvT K t s) : EvT K (tFor wi g t) (sFor it sg s) := by
  intro ρ M c h F π G H σ R S D q
  unfold sFor at h
  obtain ⟨⟨ds, M1⟩, e, h⟩ := Option.bind_eq_some_iff.mp h
  refine hi ρ M ds M1 e F π G H σ R S _ fun π1 G1 H1 J g1 R1 ok => ?_
  have S1 := S.gr g1
  have q1 := EndOk.gr g1 q
  clear q S g1 e
  let W : Nat → L2.St → Hp → Prop := fun i σ H => ∃ ρ M π' G', i ≤ ds.length ∧ Gr π1 π' G1 G' ∧ Rel K F π' G' H M ∧ Slots K π' G' ρ σ ∧ loop sg s (ds.drop i) ρ M = some c
  refine ⟨fun i m σ H => m = ds.length - i ∧ W i σ H, ⟨_, rfl, ρ, M1, π1, G1, Nat.zero_le _, Gr.refl, R1, S1, h⟩, ?_⟩
  rintro i m σ' H' ⟨rfl, ρ', M', π', G', hle, g', R', S', hl⟩
  by_cases hlt : i < ds.length
  · refine .inr ⟨ok.go i H' (fun b o x => R'.ex b o (g'.s b o x)) hlt, W (i + 1), fun σ'' H'' w => ⟨ds.length - (i + 1), by omega, rfl, w⟩, fun x H'' y => ?_⟩
    obtain ⟨d, G3, e3, al, hd⟩ := ok.yld i H' x H'' G' g'.s R'.ex y hlt
    have ed : ds.drop i = d :: ds.drop (i + 1) := by
      rw [List.drop_eq_getElem_cons hlt]
      rw [List.getElem?_eq_getElem hlt] at e3
      cases e3; rfl
    rw [ed] at hl
    unfold loop at hl
    obtain ⟨⟨ρ2, M2⟩, e2, hl⟩ := Option.bind_eq_some_iff.mp hl
    obtain ⟨k, ek, hl⟩ := Option.bind_eq_some_iff.mp hl
    have ga := Gr.of (π := π') (R'.alSame al)
    refine hg (.dat d) ρ' M' ρ2 M2 e2 F π' G3 H'' x σ' (R'.al al) (S'.gr ga) (.dat hd) _ fun π4 G4 H4 σ4 g4 R4 S4 => ?_
    have gg := (g'.trans ga).trans g4
    refine hb ρ2 M2 k ek F π4 G4 H4 σ4 R4 S4 _ ?_
    cases k with
    | nx ρ5 M5 => exact fun π5 G5 H5 σ5 g5 R5 S5 => ⟨ρ5, M5, π5, G5, hlt, gg.trans g5, R5, S5, hl⟩
    | ct ρ5 M5 => exact fun π5 G5 H5 σ5 g5 R5 S5 => ⟨ρ5, M5, π5, G5, hlt, gg.trans g5, R5, S5, hl⟩
    | bk ρ5 M5 =>
      cases hl
      exact fun π5 G5 H5 σ5 g5 R5 S5 => q1 π5 G5 H5 σ5 (gg.trans g5) R5 S5
    | rt r M5 =>
      cases hl
      exact fun π5 G5 H5 σ5 g5 R5 S5 => q1 π5 G5 H5 σ5 (gg.trans g5) R5 S5
  · have e : ds.drop i = [] := List.drop_of_length_le (by omega)
    rw [e] at hl
    cases hl
    exact .inl ⟨ok.stop i H' (fun b o x => R'.ex b o (g'.s b o x)) (by omega), q1 π' G' H' σ' g' R' S'⟩
theorem et_while {tc : TT} {b : SB} {n : Nat} (hc : EvB K tc b) (hb : EvT K t s) : EvT K (tWhile tc t) (whl b s n) := by
  intro ρ M c h F π G H σ R S D q
  let W : Nat → L2.St → Hp → Prop := fun m σ H => ∃ ρ M π' G', Gr π π' G G' ∧ Rel K F π' G' H M ∧ Slots K π' G' ρ σ ∧ whl b s m ρ M = some c
  refine ⟨W, ⟨n, ρ, M, π, G, Gr.refl, R, S, h⟩, ?_⟩
  rintro m σ' H' ⟨ρ', M', π', G', g', R', S', hl⟩
  cases m with
  | zero => cases hl
  | succ m =>
    unfold whl at hl
    obtain ⟨⟨v, M1⟩, e, hl⟩ := Option.bind_eq_some_iff.mp hl
    refine hc ρ' M' v M1 e F π' G' H' σ' R' S' _ fun π1 G1 H1 g1 R1 => ?_
    cases v with
    | true =>
      rw [if_pos rfl]
      dsimp only at hl
      rw [if_pos rfl] at hl
      obtain ⟨k, ek, hl⟩ := Option.bind_eq_some_iff.mp hl
      refine ⟨W m, fun σ'' H'' w => ⟨m, Nat.lt_succ_self m, w⟩, ?_⟩
      have gg := g'.trans g1
      refine hb ρ' M1 k ek F π1 G1 H1 σ' R1 (S'.gr g1) _ ?_
      cases k with
      | nx ρ5 M5 => exact fun π5 G5 H5 σ5 g5 R5 S5 => ⟨ρ5, M5, π5, G5, gg.trans g5, R5, S5, hl⟩
      | ct ρ5 M5 => exact fun π5 G5 H5 σ5 g5 R5 S5 => ⟨ρ5, M5, π5, G5, gg.trans g5, R5, S5, hl⟩
      | bk ρ5 M5 =>
        cases hl
        exact fun π5 G5 H5 σ5 g5 R5 S5 => q π5 G5 H5 σ5 (gg.trans g5) R5 S5
      | rt r M5 =>
        cases hl
        exact fun π5 G5 H5 σ5 g5 R5 S5 => q π5 G5 H5 σ5 (gg.trans g5) R5 S5
    | false =>
      rw [if_neg Bool.false_ne_true]
      cases hl
      exact q π1 G1 H1 σ' (g'.trans g1) R1 (S'.gr g1)

/-! ### a list comprehension -/
def lcL (g : SG) (tt : SB) (el : SE) (ρ : Rho) : List PyData → Mem → Option (List PyData × Mem)
  | [], M => some ([], M)
  | d :: ds, M => (g (.dat d) ρ M).bind fun y => (tt y.1 y.2).bind fun b => if b.1 = true then (el y.1 b.2).bind fun r => match r.1 with
      | .dat x => (lcL g tt el ρ ds r.2).bind fun z => some (x :: z.1, z.2)
      | _ => none
    else lcL g tt el ρ ds b.2
def eLc (it : SI) (g : SG) (tt : SB) (el : SE) (vs : List Nat) : SE := fun ρ M => (it ρ M).bind fun x => if x.1.length ≤ 100000 then (lcL g tt el (wipeR ρ vs) x.1 x.2).bind fun z => some (.dat (.list z.1), z.2) else none
def bYes : SB := fun _ M => some (true, M)
theorem eb_yes : EvB K tYes bYes := by
  intro ρ M z M' h F π G H σ R S Q q
  cases h
  exact q π G H Gr.refl R
/-- a target that touches no other slot -/
def GW (g : TG) (vs : List Nat) : Prop := ∀ x σ H Q, g x σ H Q → g x σ H fun σ2 H2 => wipe σ2 vs = wipe σ vs ∧ Q σ2 H2
theorem gw_name {i : Nat} {vs : List Nat} (h : i ∈ vs) : GW (gName i) vs := fun x σ H Q q => ⟨wipe_set h, q⟩
theorem gw_names : ∀ {is vs : List Nat}, (∀ i ∈ is, i ∈ vs) → ∀ xs σ H Q, gNames is xs σ H Q → gNames is xs σ H fun σ2 H2 => wipe σ2 vs = wipe σ vs ∧ Q σ2 H2
  | [], vs, _, xs, σ, H, Q, ⟨e, q⟩ => ⟨e, rfl, q⟩
  | i :: is, vs, h, xs, σ, H, Q, ⟨v, r, e, q⟩ => by
    refine ⟨v, r, e, ?_⟩
    have := gw_names (fun j hj => h j (List.mem_cons_of_mem _ hj)) r (σ.set i (some v)) H Q q
    rw [wipe_set (h i List.mem_cons_self)] at this
    exact this
theorem gw_tup {is vs : List Nat} {n : Nat} (h : ∀ i ∈ is, i ∈ vs) : GW (gTup K n (gNames is)) vs := fun x σ H Q q => by
  obtain ⟨a, xs, e, hs, hl, q⟩ := q
  exact ⟨a, xs, e, hs, hl, gw_names h xs σ H Q q⟩
theorem lc_core {wi : TI} {g : TG} {tt : TT} {it : SI} {sg : SG} {b : SB} {vs : List Nat} (hi : EvI K wi it) (hg : EvG K g sg) (hw : GW g vs) (ht : EvB K tt b) (he : EvS K ta a)
    {ρ : Rho} {M M1 M2 : Mem} {ds out : List PyData} (e : it ρ M = some (ds, M1)) (hz : ds.length ≤ 100000) (e2 : lcL sg b a (wipeR ρ vs) ds M1 = some (out, M2)) {F : Hp} {π : List Addr} {G H : Hp} {σ : L2.St} (R : Rel K F π G H M) (S : Slots K π G ρ σ) {Q : VK}
    (q : ∀ π' G' H' D vs', Gr π π' G G' → Rel K (upd F D (.lst vs')) π' G' H' M2 → F D = none → DqAll K G' vs' out → Q (.ref D) H') : tLc wi g tt ta vs σ H Q := by
  · skip
    refine hi ρ M ds M1 e F π G H σ R S _ fun π1 G1 H1 J g1 R1 ok => ?_
    intro D hD
    have S1 := (S.gr g1).wiped vs
    have hF := R1.frNone hD
    let W : Nat → Hp → Prop := fun i H => ∃ M π' G' acc vs' rest, i ≤ ds.length ∧ vs'.length ≤ i ∧ Gr π1 π' G1 G' ∧ Rel K (upd F D (.lst vs')) π' G' H M ∧ DqAll K G' vs' acc ∧ lcL sg b a (wipeR ρ vs) (ds.drop i) M = some (rest, M2) ∧ out = acc ++ rest
    refine ⟨fun i m H => m = ds.length - i ∧ W i H, ⟨_, rfl, M1, π1, G1, [], [], out, Nat.zero_le _, Nat.le_refl _, Gr.refl, R1.frame hD, .nil, e2, rfl⟩, ?_⟩
    rintro i m H' ⟨rfl, M3, π', G', acc, vs', rest, hle, hvl, g', R', hacc, hl, ho⟩
    by_cases hlt : i < ds.length
    · refine .inr ⟨ok.go i H' (fun b o x => R'.ex b o (g'.s b o x)) hlt, W (i + 1), fun H'' w => ⟨ds.length - (i + 1), by omega, rfl, w⟩, fun x H'' y => ?_⟩
      obtain ⟨d, G3, e3, al, hd⟩ := ok.yld i H' x H'' G' g'.s R'.ex y hlt
      have ed : ds.drop i = d :: ds.drop (i + 1) := by
        rw [List.drop_eq_getElem_cons hlt]
        rw [List.getElem?_eq_getElem hlt] at e3
        cases e3; rfl
      rw [ed] at hl
      unfold lcL at hl
      obtain ⟨⟨ρ2, M4⟩, e4, hl⟩ := Option.bind_eq_some_iff.mp hl
      obtain ⟨⟨bv, M5⟩, e5, hl⟩ := Option.bind_eq_some_iff.mp hl
      have ga := Gr.of (π := π') (R'.alSame al)
      have hwi : wipe (wipe σ vs) vs = wipe σ vs := wipe_wipe σ vs vs (fun v hv => hv)
      have key : ∀ Q' : L2.St → Hp → Prop, (∀ π4 G4 H4 σ4, Gr π' π4 G3 G4 → Rel K (upd F D (.lst vs')) π4 G4 H4 M4 → Slots K π4 G4 ρ2 σ4 → Q' σ4 H4) → g x (wipe σ vs) H'' fun σ2 H2 => wipe σ2 vs = wipe σ vs ∧ Q' σ2 H2 := by
        intro Q' hQ
        have := hw x (wipe σ vs) H'' Q' (hg (.dat d) (wipeR ρ vs) M3 ρ2 M4 e4 (upd F D (.lst vs')) π' G3 H'' x (wipe σ vs) (R'.al al) (S1.gr (g'.trans ga)) (.dat hd) Q' hQ)
        rw [hwi] at this
        exact this
      refine key _ fun π4 G4 H4 σ4 g4 R4 S4 => ?_
      refine ht ρ2 M4 bv M5 e5 _ π4 G4 H4 σ4 R4 S4 _ fun π5 G5 H5 g5 R5 => ?_
      have gg := ((g'.trans ga).trans g4).trans g5
      have gh := (ga.trans g4).trans g5
      cases bv with
      | true =>
        rw [if_pos rfl]
        dsimp only at hl
        rw [if_pos rfl] at hl
        obtain ⟨⟨r, M6⟩, e6, hl⟩ := Option.bind_eq_some_iff.mp hl
        refine he ρ2 M5 r M6 e6 _ π5 G5 H5 σ4 R5 (S4.gr g5) _ fun π6 G6 H6 v6 g6 R6 s6 => ?_
        cases s6 with
        | cel _ => cases hl
        | @dat x' v6 hd6 =>
          dsimp only at hl
          obtain ⟨⟨rest', M7⟩, e7, hl⟩ := Option.bind_eq_some_iff.mp hl
          cases hl
          refine ⟨vs', (R6.fr D _ upd_same).1, szl (by omega), ?_⟩
          refine ⟨M6, π6, G6, acc ++ [x'], vs' ++ [v6], rest', hlt, by rw [List.length_append]; simp; omega, gg.trans g6, ?_, (hacc.mono (gh.s.trans g6.s)).append (.cons hd6 .nil), e7, by rw [ho]; simp⟩
          have := R6.framed (o' := .lst (vs' ++ [v6])) upd_same
          rw [upd_upd] at this
          exact this
      | false =>
        rw [if_neg Bool.false_ne_true]
        dsimp only at hl
        rw [if_neg Bool.false_ne_true] at hl
        exact ⟨M5, π5, G5, acc, vs', rest, hlt, by omega, gg, R5, hacc.mono gh.s, hl, ho⟩
    · have e : ds.drop i = [] := List.drop_of_length_le (by omega)
      rw [e] at hl
      cases hl
      rw [List.append_nil] at ho
      subst ho
      exact .inl ⟨ok.stop i H' (fun b o x => R'.ex b o (g'.s b o x)) (by omega), q π' G' H' D vs' (g1.trans g') R' hF hacc⟩
theorem ev_lc {wi : TI} {g : TG} {tt : TT} {it : SI} {sg : SG} {b : SB} {vs : List Nat} (hi : EvI K wi it) (hg : EvG K g sg) (hw : GW g vs) (ht : EvB K tt b) (he : EvS K ta a) : EvS K (tLc wi g tt ta vs) (eLc it sg b a vs) := by
  intro ρ M z M' h F π G H σ R S Q q
  unfold eLc at h
  obtain ⟨⟨ds, M1⟩, e, h⟩ := Option.bind_eq_some_iff.mp h
  split at h
  · rename_i hz
    dsimp only at hz
    obtain ⟨⟨out, M2⟩, e2, h⟩ := Option.bind_eq_some_iff.mp h
    cases h
    refine lc_core hi hg hw ht he e hz e2 R S fun π' G' H' D vs' g' R' hF hacc => ?_
    obtain ⟨R6, sg6⟩ := R'.unframe hF
    exact q π' _ H' _ (g'.trans (.of sg6)) R6 (.dat (.lst (SqL.of upd_same) (hacc.mono sg6)))
  · cases h
/-- a list comprehension whose list may change -/
def eLcN (it : SI) (g : SG) (tt : SB) (el : SE) (vs : List Nat) : SE := fun ρ M => (it ρ M).bind fun x => if x.1.length ≤ 100000 then (lcL g tt el (wipeR ρ vs) x.1 x.2).bind fun z => some (.cel z.2.length, z.2 ++ [some (z.1.map SV.dat)]) else none
theorem Rel.adopt {F : Hp} {π : List Addr} {G H : Hp} {M : Mem} {p : Addr} {xs : List SV} {vs : List V} (r : Rel K (upd F p (.lst vs)) π G H M) (hF : F p = none) (s : Svs K π G xs vs) : Rel K F (π ++ [p]) G H (M ++ [some xs]) := by
  obtain ⟨hH, hg⟩ := r.fr p _ upd_same
  have old : ∀ (i : Nat) (ys : List SV), (M ++ [some xs])[i]? = some (some ys) → (i < M.length ∧ M[i]? = some (some ys)) ∨ (i = M.length ∧ ys = xs) := by
    intro i ys e
    by_cases hi : i < M.length
    · rw [List.getElem?_append_left hi] at e; exact .inl ⟨hi, e⟩
    · rw [List.getElem?_append_right (by omega)] at e
      have hz : i - M.length = 0 := by
        by_cases hz : i - M.length = 0
        · exact hz
        · rw [List.getElem?_eq_none (by simp; omega)] at e; cases e
      rw [hz] at e
      simp at e
      exact .inr ⟨by omega, e.symm⟩
  have at1 : (π ++ [p])[M.length]? = some p := by
    rw [List.getElem?_append_right (by rw [r.len]; exact Nat.le_refl _), r.len, Nat.sub_self]; rfl
  have ne : ∀ (i : Nat) (ys : List SV) (b : Addr), M[i]? = some (some ys) → (π ++ [p])[i]? = some b → b ≠ p := by
    intro i ys b e q
    obtain ⟨b', _, h1, h2, _⟩ := r.mem i ys e
    have : (π ++ [p])[i]? = some b' := ix_app h1
    rw [this] at q; cases q
    intro z
    rw [z, upd_same] at h2; cases h2
  refine ⟨r.ex, fun b x e => ?_, by simp [r.len], fun i ys e => ?_, fun i j ys zs a e1 e2 e3 e4 => ?_, fun i ys e j hj => ?_⟩
  · have hb : b ≠ p := fun z => by rw [z, hF] at e; cases e
    exact r.fr b x (by rw [upd_ne hb]; exact e)
  · rcases old i ys e with ⟨hi, e⟩ | ⟨hi, e⟩
    · obtain ⟨a, vs', h1, h2, h3, h4, h5⟩ := r.mem i ys e
      have hb : a ≠ p := ne i ys a e (ix_app h1)
      exact ⟨a, vs', ix_app h1, by rw [upd_ne hb] at h2; exact h2, h3, h4, h5.mono (Same.refl G)⟩
    · subst e; subst hi
      exact ⟨p, vs, at1, hF, hg, hH, s.mono (Same.refl G)⟩
  · rcases old i ys e1 with ⟨hi, e1⟩ | ⟨hi, e1⟩ <;> rcases old j zs e2 with ⟨hj, e2⟩ | ⟨hj, e2⟩
    · rw [List.getElem?_append_left (by rw [r.len]; exact hi)] at e3
      rw [List.getElem?_append_left (by rw [r.len]; exact hj)] at e4
      exact r.inj i j ys zs a e1 e2 e3 e4
    · subst hj
      rw [at1] at e4; cases e4
      exact absurd rfl (ne i ys _ e1 e3)
    · subst hi
      rw [at1] at e3; cases e3
      exact absurd rfl (ne j zs _ e2 e4)
    · omega
  · rcases old i ys e with ⟨hi, e⟩ | ⟨hi, e⟩
    · exact r.wf i ys e j hj
    · subst e; subst hi
      have := s.refs hj
      rw [r.len] at this
      exact this
theorem ev_lcN {wi : TI} {g : TG} {tt : TT} {it : SI} {sg : SG} {b : SB} {vs : List Nat} (hi : EvI K wi it) (hg : EvG K g sg) (hw : GW g vs) (ht : EvB K tt b) (he : EvS K ta a) : EvS K (tLc wi g tt ta vs) (eLcN it sg b a vs) := by
  intro ρ M z M' h F π G H σ R S Q q
  unfold eLcN at h
  obtain ⟨⟨ds, M1⟩, e, h⟩ := Option.bind_eq_some_iff.mp h
  split at h
  · rename_i hz
    dsimp only at hz
    obtain ⟨⟨out, M2⟩, e2, h⟩ := Option.bind_eq_some_iff.mp h
    cases h
    refine lc_core hi hg hw ht he e hz e2 R S fun π' G' H' D vs' g' R' hF hacc => ?_
    refine q (π' ++ [D]) G' H' _ (g'.trans ⟨Same.refl G', [D], rfl⟩) (R'.adopt hF (Svs.ofD hacc)) (.cel ?_)
    show (π' ++ [D])[M2.length]? = some D
    rw [List.getElem?_append_right (by rw [R'.len]; exact Nat.le_refl _), R'.len, Nat.sub_self]; rfl
  · cases h
/-- behind a statement a list is held still: the slot i holds data from there on -/
def sFrz (i : Nat) (s : SS) : SS := fun ρ M => (s ρ M).bind fun c => match c with
  | .nx ρ' M' => match ρ'[i]? with
    | some (some (.cel j)) => match M'[j]? with
      | some (some xs) => (dats xs).bind fun ds => some (.nx (ρ'.set i (some (.dat (.list ds)))) (M'.set j none))
      | _ => none
    | _ => none
  | c => some c
theorem et_frz {i : Nat} {s : SS} {t : TS} (hs : EvT K t s) : EvT K t (sFrz i s) := by
  intro ρ M c h F π G H σ R S D q
  unfold sFrz at h
  obtain ⟨k, e, h⟩ := Option.bind_eq_some_iff.mp h
  refine hs ρ M k e F π G H σ R S D ?_
  cases k with
  | nx ρ' M' =>
    dsimp only at h
    intro π' G' H' σ' g R' S'
    split at h
    · rename_i j hj
      split at h
      · rename_i xs hx
        obtain ⟨ds, hd, h⟩ := Option.bind_eq_some_iff.mp h
        cases h
        obtain ⟨a, vs, p1, p2, p3, p4, p5⟩ := R'.mem j xs hx
        obtain ⟨y, hy, sy⟩ := S'.get hj
        cases sy with
        | cel ea =>
          rw [p1] at ea
          cases ea
          obtain ⟨R2, sg⟩ := R'.freeze hx p1 p4
          have S2 := (S'.gr (Gr.of sg)).set (.dat (.lst (SqL.of upd_same) ((dats_all hd p5).mono sg))) i
          have es : σ'.set i (some (.ref a)) = σ' := by
            apply List.ext_getElem?
            intro n
            by_cases hn : i = n
            · subst hn
              obtain ⟨hlt, _⟩ := List.getElem?_eq_some_iff.mp hy
              rw [List.getElem?_set_self hlt, hy]
            · rw [List.getElem?_set_ne hn]
          rw [es] at S2
          exact q π' _ H' σ' (g.trans (.of sg)) R2 S2
      · cases h
    · cases h
  | rt r M' => cases h; exact q
  | bk ρ' M' => cases h; exact q
  | ct ρ' M' => cases h; exact q
/-- a, b = x, y -/
def sPar (i j : Nat) (a : SA) : SS := fun ρ M => (a ρ M).bind fun x => match x.1 with
  | [u, v] => some (.nx ((ρ.set i (some u)).set j (some v)) x.2)
  | _ => none
theorem et_par {i j : Nat} {t : TA} {as : SA} (hs : EvA K t as) : EvT K (tPar i j t) (sPar i j as) := by
  intro ρ M c h F π G H σ R S D q
  unfold sPar at h
  obtain ⟨⟨x, M1⟩, h1, h⟩ := Option.bind_eq_some_iff.mp h
  refine hs ρ M x M1 h1 F π G H σ R S _ fun π1 G1 H1 v1 g1 R1 s1 => ?_
  dsimp only at h
  split at h
  · cases h
    cases s1 with
    | cons s1 s2 =>
      cases s2 with
      | cons s2 s3 =>
        cases s3
        exact ⟨_, _, rfl, q π1 G1 H1 _ g1 R1 (((S.gr g1).set s1 i).set s2 j)⟩
  · cases h

/-! ### defs -/
def fin (r : SV) (M M' : Mem) : Option (SV × Mem) := match r with
  | .dat d => some (.dat d, M'.take M.length)
  | r => some (r, M')
def mkF (n : Nat) (body : SS) : SF := fun args M => (body (args.map some ++ List.replicate (n - args.length) none) M).bind fun c => match c with
  | .rt r M' => fin r M M'
  | .nx _ M' => fin (.dat .none) M M'
  | _ => none
/-- the promise of a def -/
def spF (K : PySem.W.Frag) (n : Nat) (f : SF) : Sp := fun vs H Q _ => ∃ args M r M' F π G, f args M = some (r, M') ∧ args.length = n ∧ Rel K F π G H M ∧ Svs K π G args vs ∧
  ∀ π' G' H' v, Gr π π' G G' → Rel K F π' G' H' M' → Sv K π' G' r v → Q v H'
theorem fin_ok {F : Hp} {π π' : List Addr} {G G' H' : Hp} {M M' M'' : Mem} {r r' : SV} {v : V} (h : fin r M M' = some (r', M'')) (hl : π.length = M.length) (g : Gr π π' G G') (R : Rel K F π' G' H' M') (s : Sv K π' G' r v) :
    ∃ π'', Gr π π'' G G' ∧ Rel K F π'' G' H' M'' ∧ Sv K π'' G' r' v := by
  unfold fin at h
  cases r with
  | dat d =>
    cases h
    obtain ⟨gs, more, rfl⟩ := g
    rw [← hl]
    refine ⟨π, Gr.of gs, R.cut, ?_⟩
    cases s with
    | dat hd => exact .dat hd
  | cel i =>
    cases h
    exact ⟨π', g, R, s⟩
theorem slots_start {π : List Addr} {G : Hp} {N : List Str} : ∀ {args : List SV} {vs : List V}, Svs K π G args vs → Slots K π G (args.map some ++ List.replicate (N.length - args.length) none) (start N vs) := by
  intro args vs h
  unfold L2.start
  rw [h.length]
  generalize N.length - vs.length = k
  induction h with
  | nil =>
    show Slots K π G (List.replicate k none) (List.replicate k none)
    induction k with
    | zero => exact .nil
    | succ k ih => rw [List.replicate_succ, List.replicate_succ]; exact .skip ih
  | cons hs _ ih => exact .hold hs ih
/-- a def keeps its promise, by its body -/
theorem fn_ok {P : Program} {w : World} {mg : Str → Option Value} {base : Heap} {x qual : Str} {st : Stmt} {f : Addr} {fd : FuncData} {N ps : List Str} {k : Nat} (Fu : Fun K x qual st f fd) (Sc : FnScope N ps (defScope st)) {body : SS} {t : TS}
    (hb : ∀ (cdv : Value) (A : Around) (outer : List PySem.Env) (s : Shared) (H : Hp) (E : XK), Room k (A.deeper (envOfC qual (defScope st) s.heap.objs.size f cdv)) →
      PSs (cxOf CX0 P w K mg base N qual (defScope st) f cdv A outer s H E).nox (defBody st) t) (he : EvT K t body) : FnOk P w K mg base CX0 (k + 1) f fd ps (spF K ps.length (mkF N.length body)) := by
  refine Fu.ok Sc (fun vs H Q E h => ?_) (fun cdv A outer s H vs Q E hr h => ?_)
  · obtain ⟨args, M, r, M', F, π, G, _, hl, _, hs, _⟩ := h
    rw [← hs.length, hl]
  · obtain ⟨args, M, r, M', F, π, G, hf, hl, R, hs, q⟩ := h
    refine ⟨t, hb cdv A outer s H E hr, ?_⟩
    unfold mkF at hf
    obtain ⟨c, hc, hf⟩ := Option.bind_eq_some_iff.mp hf
    refine he _ M c hc F π G H (start N vs) R (slots_start hs) _ ?_
    cases c with
    | nx ρ M1 =>
      intro π' G' H' σ' g R' S'
      obtain ⟨π'', g2, R2, s2⟩ := fin_ok hf R.len g R' (.dat .non)
      exact q π'' G' H' _ g2 R2 s2
    | rt v M1 =>
      intro π' G' H' u g R' s'
      obtain ⟨π'', g2, R2, s2⟩ := fin_ok hf R.len g R' s'
      exact q π'' G' H' _ g2 R2 s2
    | bk _ _ => cases hf
    | ct _ _ => cases hf
theorem ev_call {f : SF} {n : Nat} {E : XK} {ts : TA} {as : SA} (hs : EvA K ts as) (hn : ∀ ρ M x, as ρ M = some x → x.1.length = n) : EvS K (tCall (spF K n f) [] E ts) (eCall f as) := by
  intro ρ M z M' h F π G H σ R S Q q
  unfold eCall at h
  obtain ⟨⟨x, M1⟩, h1, h⟩ := Option.bind_eq_some_iff.mp h
  refine hs ρ M x M1 h1 F π G H σ R S _ fun π1 G1 H1 v1 g1 R1 s1 => ?_
  rw [List.append_nil]
  exact ⟨x, M1, z, M', F, π1, G1, h, hn ρ M _ h1, R1, s1, fun π' G' H' v g R' s' => q π' G' H' v (g1.trans g) R' s'⟩
theorem na_nil : ∀ ρ M x, aNil ρ M = some x → x.1.length = 0 := fun ρ M x h => by cases h; rfl
theorem na_cons {a : SE} {as : SA} {n : Nat} (hn : ∀ ρ M x, as ρ M = some x → x.1.length = n) : ∀ ρ M x, aCons a as ρ M = some x → x.1.length = n + 1 := fun ρ M x h => by
  unfold aCons at h
  obtain ⟨⟨x, M1⟩, h1, h⟩ := Option.bind_eq_some_iff.mp h
  obtain ⟨⟨y, M2⟩, h2, h⟩ := Option.bind_eq_some_iff.mp h
  cases h
  simp [hn _ _ _ h2]

/-! ### what a loop walks -/
def iDat (a : SE) : SI := fun ρ M => (a ρ M).bind fun x => match x.1 with
  | .dat (.list ds) => some (ds, x.2)
  | .dat (.tuple ds) => some (ds, x.2)
  | _ => none
def iDatL (a : SE) : SI := fun ρ M => (a ρ M).bind fun x => match x.1 with
  | .dat (.list ds) => some (ds, x.2)
  | _ => none
def iDatT (a : SE) : SI := fun ρ M => (a ρ M).bind fun x => match x.1 with
  | .dat (.tuple ds) => some (ds, x.2)
  | _ => none
def rangeD (lo hi : Int) : List PyData := (List.range (hi - lo).toNat).map fun k => PyData.int (lo + (k : Nat))
def iR1 (a : SA) : SI := fun ρ M => (a ρ M).bind fun x => match x.1 with
  | [.dat (.int j)] => if -(2 ^ 62) ≤ j ∧ j < 2 ^ 62 then some (rangeD 0 j, x.2) else none
  | _ => none
def iR2 (a : SA) : SI := fun ρ M => (a ρ M).bind fun x => match x.1 with
  | [.dat (.int i), .dat (.int j)] => if (-(2 ^ 62) ≤ i ∧ i < 2 ^ 62) ∧ -(2 ^ 62) ≤ j ∧ j < 2 ^ 62 then some (rangeD i j, x.2) else none
  | _ => none
def zipD (xs ys : List PyData) : List PyData := (xs.zip ys).map fun p => PyData.tuple [p.1, p.2]
def iZp (a : SA) : SI := fun ρ M => (a ρ M).bind fun x => match x.1 with
  | [.dat (.list xs), .dat (.list ys)] => some (zipD xs ys, x.2)
  | [.dat (.tuple xs), .dat (.tuple ys)] => some (zipD xs ys, x.2)
  | _ => none
def iRv (a : SE) : SI := fun ρ M => (a ρ M).bind fun x => match x.1 with
  | .dat (.list ds) => some (ds.reverse, x.2)
  | .dat (.tuple ds) => some (ds.reverse, x.2)
  | _ => none
theorem itl_ok {G : Hp} {l : Addr} {xs : List V} {ds : List PyData} (hs : SqL K G l xs) (ha : DqAll K G xs ds) : ItOk K G (Itl K l) ds where
  go := fun i H e hi => by
    have hi' : i < xs.length := by rw [ha.length]; exact hi
    exact ⟨xs, xs[i], e.seq hs, List.getElem?_eq_getElem hi'⟩
  stop := fun i H e hi => ⟨xs, e.seq hs, by rw [ha.length]; exact hi⟩
  yld := fun i H x H' G2 e1 e2 y hi => by
    obtain ⟨rfl, h⟩ := y
    obtain ⟨d, h1, h2⟩ := ha.get (h xs ((e1.trans e2).seq hs))
    exact ⟨d, G2, h1, .same, h2.mono e1⟩
theorem itt_ok {G : Hp} {l : Addr} {xs : List V} {ds : List PyData} (hs : SqT K G l xs) (ha : DqAll K G xs ds) : ItOk K G (Itt K l) ds where
  go := fun i H e hi => by
    have hi' : i < xs.length := by rw [ha.length]; exact hi
    exact ⟨xs, xs[i], same_sqT e hs, List.getElem?_eq_getElem hi'⟩
  stop := fun i H e hi => ⟨xs, same_sqT e hs, by rw [ha.length]; exact hi⟩
  yld := fun i H x H' G2 e1 e2 y hi => by
    obtain ⟨rfl, h⟩ := y
    obtain ⟨d, h1, h2⟩ := ha.get (h xs (same_sqT (e1.trans e2) hs))
    exact ⟨d, G2, h1, .same, h2.mono e1⟩
theorem rangeD_len (lo hi : Int) : (rangeD lo hi).length = (hi - lo).toNat := by simp [rangeD]
theorem itr_ok {G : Hp} {lo hi : Int} : ItOk K G (Itr lo (hi - lo).toNat) (rangeD lo hi) where
  go := fun i H e h => by rw [rangeD_len] at h; exact h
  stop := fun i H e h => by rw [rangeD_len] at h; exact h
  yld := fun i H x H' G2 e1 e2 y h => by
    obtain ⟨rfl, rfl⟩ := y
    rw [rangeD_len] at h
    exact ⟨.int (lo + (i : Nat)), G2, by simp [rangeD, h], .same, .int _⟩
theorem zipD_get {xs ys : List PyData} {i : Nat} {x y : PyData} (h1 : xs[i]? = some x) (h2 : ys[i]? = some y) : (zipD xs ys)[i]? = some (.tuple [x, y]) := by
  unfold zipD
  rw [List.getElem?_map, List.getElem?_zip_eq_some (z := (x, y)) |>.mpr ⟨h1, h2⟩]; rfl
theorem zipD_len (xs ys : List PyData) : (zipD xs ys).length = min xs.length ys.length := by simp [zipD]
theorem itz_ok {G : Hp} {l m : Addr} {xs ys : List V} {ds es : List PyData} (hs : SqL K G l xs) (ha : DqAll K G xs ds) (hs' : SqL K G m ys) (ha' : DqAll K G ys es) : ItOk K G (Itz K l m) (zipD ds es) where
  go := fun i H e hi => by
    rw [zipD_len] at hi
    have h1 : i < xs.length := by rw [ha.length]; omega
    have h2 : i < ys.length := by rw [ha'.length]; omega
    exact ⟨xs, ys, xs[i], ys[i], e.seq hs, e.seq hs', List.getElem?_eq_getElem h1, List.getElem?_eq_getElem h2⟩
  stop := fun i H e hi => by
    rw [zipD_len] at hi
    refine ⟨xs, ys, e.seq hs, e.seq hs', ?_⟩
    rw [ha.length, ha'.length]; omega
  yld := fun i H x H' G2 e1 e2 y hi => by
    obtain ⟨T, x1, x2, rfl, nT, rfl, h1, h2⟩ := y
    obtain ⟨d, q1, q2⟩ := ha.get (h1 xs ((e1.trans e2).seq hs))
    obtain ⟨d', q3, q4⟩ := ha'.get (h2 ys ((e1.trans e2).seq hs'))
    have hn : Same G2 (upd G2 T (.tup [x1, x2])) := same_upd (none_of_same e2 nT)
    exact ⟨_, upd G2 T (.tup [x1, x2]), zipD_get q1 q3, .new nT, .tup (SqT.of upd_same) (.cons ((q2.mono e1).mono hn) (.cons ((q4.mono e1).mono hn) .nil))⟩
theorem itzt_ok {G : Hp} {l m : Addr} {xs ys : List V} {ds es : List PyData} (hs : SqT K G l xs) (ha : DqAll K G xs ds) (hs' : SqT K G m ys) (ha' : DqAll K G ys es) : ItOk K G (RZ.ItzT K l m) (zipD ds es) where
  go := fun i H e hi => by
    rw [zipD_len] at hi
    have h1 : i < xs.length := by rw [ha.length]; omega
    have h2 : i < ys.length := by rw [ha'.length]; omega
    exact ⟨xs, ys, xs[i], ys[i], same_sqT e hs, same_sqT e hs', List.getElem?_eq_getElem h1, List.getElem?_eq_getElem h2⟩
  stop := fun i H e hi => by
    rw [zipD_len] at hi
    refine ⟨xs, ys, same_sqT e hs, same_sqT e hs', ?_⟩
    rw [ha.length, ha'.length]; omega
  yld := fun i H x H' G2 e1 e2 y hi => by
    obtain ⟨T, x1, x2, rfl, nT, rfl, h1, h2⟩ := y
    obtain ⟨d, q1, q2⟩ := ha.get (h1 xs (same_sqT (e1.trans e2) hs))
    obtain ⟨d', q3, q4⟩ := ha'.get (h2 ys (same_sqT (e1.trans e2) hs'))
    have hn : Same G2 (upd G2 T (.tup [x1, x2])) := same_upd (none_of_same e2 nT)
    exact ⟨_, upd G2 T (.tup [x1, x2]), zipD_get q1 q3, .new nT, .tup (SqT.of upd_same) (.cons ((q2.mono e1).mono hn) (.cons ((q4.mono e1).mono hn) .nil))⟩
theorem rev_get {ds : List PyData} {i : Nat} {d : PyData} (hi : i < ds.length) (h : ds[ds.length - 1 - i]? = some d) : ds.reverse[i]? = some d := by
  rw [List.getElem?_reverse hi]; exact h
theorem itv_ok {G : Hp} {l : Addr} {xs : List V} {ds : List PyData} (hs : SqL K G l xs) (ha : DqAll K G xs ds) : ItOk K G (Itv K l xs.length) ds.reverse where
  go := fun i H e hi => by
    rw [List.length_reverse] at hi
    have hi' : i < xs.length := by rw [ha.length]; exact hi
    exact ⟨hi', xs, xs[xs.length - 1 - i], e.seq hs, List.getElem?_eq_getElem (by omega)⟩
  stop := fun i H e hi => by rw [List.length_reverse] at hi; show xs.length ≤ i; rw [ha.length]; exact hi
  yld := fun i H x H' G2 e1 e2 y hi => by
    rw [List.length_reverse] at hi
    obtain ⟨rfl, h⟩ := y
    obtain ⟨d, h1, h2⟩ := ha.get (h xs ((e1.trans e2).seq hs))
    rw [ha.length] at h1
    exact ⟨d, G2, rev_get hi h1, .same, h2.mono e1⟩
theorem itvt_ok {G : Hp} {l : Addr} {xs : List V} {ds : List PyData} (hs : SqT K G l xs) (ha : DqAll K G xs ds) : ItOk K G (RT.ItvT K l xs.length) ds.reverse where
  go := fun i H e hi => by
    rw [List.length_reverse] at hi
    have hi' : i < xs.length := by rw [ha.length]; exact hi
    exact ⟨hi', xs, xs[xs.length - 1 - i], same_sqT e hs, List.getElem?_eq_getElem (by omega)⟩
  stop := fun i H e hi => by rw [List.length_reverse] at hi; show xs.length ≤ i; rw [ha.length]; exact hi
  yld := fun i H x H' G2 e1 e2 y hi => by
    rw [List.length_reverse] at hi
    obtain ⟨rfl, h⟩ := y
    obtain ⟨d, h1, h2⟩ := ha.get (h xs (same_sqT (e1.trans e2) hs))
    rw [ha.length] at h1
    exact ⟨d, G2, rev_get hi h1, .same, h2.mono e1⟩
theorem ei_lst (ha : EvS K ta a) : EvI K (iList K ta) (iDatL a) := by
  intro ρ M z M' h F π G H σ R S Q q
  unfold iDatL at h
  obtain ⟨⟨x, M1⟩, h1, h⟩ := Option.bind_eq_some_iff.mp h
  refine ha ρ M x M1 h1 F π G H σ R S _ fun π1 G1 H1 v1 g1 R1 s1 => ?_
  cases s1 with
  | cel _ => cases h
  | dat hd =>
    cases hd with
    | @lst l xs ds hs ha =>
      cases h
      exact ⟨l, rfl, ⟨xs, R1.ex.seq hs⟩, q π1 G1 H1 _ g1 R1 (itl_ok hs ha)⟩
    | _ => cases h
theorem ei_tup (ha : EvS K ta a) : EvI K (iTup K ta) (iDatT a) := by
  intro ρ M z M' h F π G H σ R S Q q
  unfold iDatT at h
  obtain ⟨⟨x, M1⟩, h1, h⟩ := Option.bind_eq_some_iff.mp h
  refine ha ρ M x M1 h1 F π G H σ R S _ fun π1 G1 H1 v1 g1 R1 s1 => ?_
  cases s1 with
  | cel _ => cases h
  | dat hd =>
    cases hd with
    | @tup l xs ds hs ha =>
      cases h
      exact ⟨l, rfl, ⟨xs, same_sqT R1.ex hs⟩, q π1 G1 H1 _ g1 R1 (itt_ok hs ha)⟩
    | _ => cases h
/-- a list or a tuple -/
def iSq (K : PySem.W.Frag) (tl : TE) : TI := fun σ H R => tl σ H fun x H1 => ∃ a, x = .ref a ∧ (((∃ xs, SqL K H1 a xs) ∧ R (Itl K a) H1) ∨ ((∃ xs, SqT K H1 a xs) ∧ R (Itt K a) H1))
theorem pi_sq {X : Cx} {tg l : Expr} {tl : TE} (hl : PE X l tl) : PI X tg l (iSq X.K tl) := by
  refine ⟨fun pins s σ H R I h => ?_⟩
  refine thn (hl.run pins s σ H _ I h) fun v s1 ⟨x, H1, I1, r1, q1⟩ => ?_
  obtain ⟨a, e, q1⟩ := q1
  subst e
  cases r1
  rcases q1 with ⟨⟨xs, hq⟩, q⟩ | ⟨⟨xs, hq⟩, q⟩
  · obtain ⟨its, rv, p, hz⟩ := I1.list hq
    refine wpAny_pyIter_list p.isList ?_
    refine ⟨s1.heap.objs.size, [s1.heap.objs.size], _, _, H1, rfl, I1.kept (t' := s1.toks) fun b o e => Heap.get?_push_of_some _ e, turn_list a _, ⟨_, Heap.get?_push_size _ rfl, rfl, rfl⟩, fun b hb => ?_, q⟩
    have e : b = s1.heap.objs.size := by simpa using hb
    subst e
    exact I1.fpOk (Nat.le_refl _) (I1.hok.fresh (Nat.le_refl _))
  · obtain ⟨its, rv, p, hz⟩ := I1.tuple hq
    refine wpAny_pyIter_tuple (show s1.heap.IsTuple a its.toArray from p) ?_
    refine ⟨s1.heap.objs.size, [s1.heap.objs.size], _, _, H1, rfl, I1.kept (t' := s1.toks) fun b o e => Heap.get?_push_of_some _ e, turn_tuple a _, ⟨_, Heap.get?_push_size _ rfl, rfl, rfl⟩, fun b hb => ?_, q⟩
    have e : b = s1.heap.objs.size := by simpa using hb
    subst e
    exact I1.fpOk (Nat.le_refl _) (I1.hok.fresh (Nat.le_refl _))
theorem ei_sq (ha : EvS K ta a) : EvI K (iSq K ta) (iDat a) := by
  intro ρ M z M' h F π G H σ R S Q q
  unfold iDat at h
  obtain ⟨⟨x, M1⟩, h1, h⟩ := Option.bind_eq_some_iff.mp h
  refine ha ρ M x M1 h1 F π G H σ R S _ fun π1 G1 H1 v1 g1 R1 s1 => ?_
  cases s1 with
  | cel _ => cases h
  | dat hd =>
    cases hd with
    | @lst l xs ds hs ha =>
      cases h
      exact ⟨l, rfl, .inl ⟨⟨xs, R1.ex.seq hs⟩, q π1 G1 H1 _ g1 R1 (itl_ok hs ha)⟩⟩
    | @tup l xs ds hs ha =>
      cases h
      exact ⟨l, rfl, .inr ⟨⟨xs, same_sqT R1.ex hs⟩, q π1 G1 H1 _ g1 R1 (itt_ok hs ha)⟩⟩
    | _ => cases h
theorem ei_r1 {ts : TA} {as : SA} (hs : EvA K ts as) : EvI K (iRng1 ts) (iR1 as) := by
  intro ρ M z M' h F π G H σ R S Q q
  unfold iR1 at h
  obtain ⟨⟨x, M1⟩, h1, h⟩ := Option.bind_eq_some_iff.mp h
  refine hs ρ M x M1 h1 F π G H σ R S _ fun π1 G1 H1 v1 g1 R1 s1 => ?_
  dsimp only at h
  split at h
  · rename_i j
    split at h
    · rename_i hj
      cases h
      cases s1 with
      | cons s1 s2 =>
        cases s2
        cases s1 with
        | dat hd =>
          cases hd
          refine ⟨j, rfl, hj.1, hj.2, q π1 G1 H1 _ g1 R1 ?_⟩
          have := @itr_ok K G1 0 j
          rw [Int.sub_zero] at this
          exact this
    · cases h
  · cases h
theorem ei_r2 {ts : TA} {as : SA} (hs : EvA K ts as) : EvI K (iRng2 ts) (iR2 as) := by
  intro ρ M z M' h F π G H σ R S Q q
  unfold iR2 at h
  obtain ⟨⟨x, M1⟩, h1, h⟩ := Option.bind_eq_some_iff.mp h
  refine hs ρ M x M1 h1 F π G H σ R S _ fun π1 G1 H1 v1 g1 R1 s1 => ?_
  dsimp only at h
  split at h
  · rename_i i j
    split at h
    · rename_i hj
      cases h
      cases s1 with
      | cons s1 s2 =>
        cases s2 with
        | cons s2 s3 =>
          cases s3
          cases s1 with
          | dat hd =>
            cases hd
            cases s2 with
            | dat hd =>
              cases hd
              exact ⟨i, j, rfl, ⟨hj.1.1, hj.1.2, hj.2.1, hj.2.2⟩, q π1 G1 H1 _ g1 R1 itr_ok⟩
    · cases h
  · cases h
theorem ei_zp {ts : TA} {as : SA} (hs : EvA K ts as) : EvI K (RZ.iZipA K ts) (iZp as) := by
  intro ρ M z M' h F π G H σ R S Q q
  unfold iZp at h
  obtain ⟨⟨x, M1⟩, h1, h⟩ := Option.bind_eq_some_iff.mp h
  refine hs ρ M x M1 h1 F π G H σ R S _ fun π1 G1 H1 v1 g1 R1 s1 => ?_
  dsimp only at h
  split at h
  · rename_i xs ys
    cases h
    cases s1 with
    | cons s1 s2 =>
      cases s2 with
      | cons s2 s3 =>
        cases s3
        cases s1 with
        | dat hd =>
          cases s2 with
          | dat hd' =>
            cases hd with
            | lst p1 p2 =>
              cases hd' with
              | lst p3 p4 => exact ⟨_, _, _, _, rfl, .inl ⟨R1.ex.seq p1, R1.ex.seq p3, q π1 G1 H1 _ g1 R1 (itz_ok p1 p2 p3 p4)⟩⟩
  · rename_i xs ys
    cases h
    cases s1 with
    | cons s1 s2 =>
      cases s2 with
      | cons s2 s3 =>
        cases s3
        cases s1 with
        | dat hd =>
          cases s2 with
          | dat hd' =>
            cases hd with
            | tup p1 p2 =>
              cases hd' with
              | tup p3 p4 => exact ⟨_, _, _, _, rfl, .inr ⟨same_sqT R1.ex p1, same_sqT R1.ex p3, q π1 G1 H1 _ g1 R1 (itzt_ok p1 p2 p3 p4)⟩⟩
  · cases h
theorem ei_rv (ha : EvS K ta a) : EvI K (RT.iRevA K ta) (iRv a) := by
  intro ρ M z M' h F π G H σ R S Q q
  unfold iRv at h
  obtain ⟨⟨x, M1⟩, h1, h⟩ := Option.bind_eq_some_iff.mp h
  refine ha ρ M x M1 h1 F π G H σ R S _ fun π1 G1 H1 v1 g1 R1 s1 => ?_
  cases s1 with
  | cel _ => cases h
  | dat hd =>
    cases hd with
    | @lst l xs ds hs ha =>
      cases h
      exact ⟨l, xs, rfl, .inl ⟨R1.ex.seq hs, q π1 G1 H1 _ g1 R1 (itv_ok hs ha)⟩⟩
    | @tup l xs ds hs ha =>
      cases h
      exact ⟨l, xs, rfl, .inr ⟨same_sqT R1.ex hs, q π1 G1 H1 _ g1 R1 (itvt_ok hs ha)⟩⟩
    | _ => cases h
end
end Sm

namespace Sm
open PySem PySem.Spec PyProof.Rows L2

/-! ### defs that may be asked only where nothing is being written out (repr) -/
structure FnG (P : Program) (w : World) (K : PySem.W.Frag) (mg : Str → Option Value) (base : Heap) (k : Nat) (f : Addr) (fd : FuncData) (ps : List Str) (sp : Sp) : Prop where
  len : ∀ vs H Q E, sp vs H Q E → vs.length = ps.length
  run : ∀ (A : Around) (out : List PySem.Env) (s : Shared) (H : Hp) (args : Args) (us : List Value) (vs : List V) (Q : VK),
    Room k A → A.guards = some [] → Env0 P w K mg base A out s H → BindsTo s fd args (ps.zip us) → Vals vs us → sp vs H Q E0 →
    codeAny (model P w) A (.call (.ref f) args) (CR CX0 out P w H s Q E0) s
section
variable {P : Program} {w : World} {K : PySem.W.Frag} {mg : Str → Option Value} {base : Heap}
theorem FnG.up {j k : Nat} {f : Addr} {fd : FuncData} {ps : List Str} {sp : Sp} (F : FnG P w K mg base j f fd ps sp) (h : j ≤ k) : FnG P w K mg base k f fd ps sp :=
  ⟨F.len, fun A out s H args us vs Q hr => F.run A out s H args us vs Q (hr.mono h)⟩
/-- a def of the text, by its body -/
theorem fng_of {k : Nat} {f : Addr} {nm ql : Str} {pars : Arguments} {bd : List Stmt} {sc : Scope} {dV kV doc pm cd ct oc : Value} {an od : Option Addr} {osl : Array (Option Value)} {N ps : List Str} {sp : Sp}
    (lk : K.lookup f = some ⟨oc, od, .func (PySem.W.fnOf nm ql pars bd sc dV kV doc pm an cd ct), osl⟩)
    (hcd : PySem.W.codeIn K cd ql = true) (Sc : FnScope N ps sc) (len : ∀ vs H Q E, sp vs H Q E → vs.length = ps.length)
    (hb : ∀ (A : Around) (out : List PySem.Env) (s : Shared) (H : Hp) (vs : List V) (Q : VK),
      Room k (A.deeper (envOfC ql sc s.heap.objs.size f cd)) → A.guards = some [] → sp vs H Q E0 →
      ∃ t, PSs (cxOf CX0 P w K mg base N ql sc f cd A out s H E0).nox bd t ∧ t { nx := fun _ H' => Q .non H', rt := Q } (L2.start N vs) H) :
    FnG P w K mg base (k + 1) f (PySem.W.fnOf nm ql pars bd sc dV kV doc pm an cd ct) ps sp := by
  constructor
  · exact len
  intro A out s H args us vs Q room hgu env bnd rv want
  have inK : K.In s.heap := env.mod.kin.keeps (fun c oc hc => (env.bs c oc hc).1)
  have noLim : s.heap.NoLimit := env.mod.nolimit.keeps (fun c oc hc => (env.bs c oc hc).1)
  have kinds : ∀ y ∈ ps.zip us, sc.names.lookup y.1 = some .local ∨
      (sc.names.lookup y.1 = some .cell ∧ ((cellsFrom (s.heap.objs.size + 1) sc.names []).lookup y.1).isSome = true) := by
    rintro ⟨n, v⟩ hy
    cases Sc.par n (List.of_mem_zip hy).1 with
    | inl h => exact Or.inl h
    | inr h => exact Or.inr ⟨h, PySem.W.cellsFrom_some _ _ _ (Or.inl h)⟩
  refine codeAny_call_function room.depth (inK _ _ lk) rfl Sc.co Sc.gen rfl (PySem.W.codeRec_of inK hcd)
    (bnd _ _ _ _ ?_)
  refine wpAny_newFunctionEnv_cells Sc.kind kinds (fun ev hev st inn => ?_)
  subst hev
  refine ⟨noLim.keeps inn.toInCall.keep, codeAny_func ?_⟩
  obtain ⟨t, der, rd⟩ := hb A out s H vs Q (room.deeper _) hgu want
  have J := inv_start (CX := CX0) (mg := mg) (E := E0) Sc room.hd env (len vs H Q E0 want) rv inn
  refine wpAny_mono (der.nox.run [] st (L2.start N vs) H _ J rd) ?_ (fun _ _ z => z)
  intro fl s' hs
  cases fl with
  | brk => exact hs.elim fun _ ⟨_, _, z⟩ => False.elim z
  | cont => exact hs.elim fun _ ⟨_, _, z⟩ => False.elim z
  | next =>
    obtain ⟨σ', H', J', q⟩ := hs
    exact ⟨V.non, H', J'.os, J'.bare, J'.base, J'.hok, rfl, q⟩
  | ret u =>
    obtain ⟨v, σ', H', J', ru, q⟩ := hs
    exact ⟨v, H', J'.os, J'.bare, J'.base, J'.hok, ru, q⟩
theorem fng_fun {x ql : Str} {st : Stmt} {f : Addr} {fd : FuncData} {N ps : List Str} {k : Nat} {sp : Sp} (Fu : Fun K x ql st f fd) (Sc : FnScope N ps (defScope st)) (len : ∀ vs H Q E, sp vs H Q E → vs.length = ps.length)
    (hb : ∀ (cd : Value) (A : Around) (out : List PySem.Env) (s : Shared) (H : Hp) (vs : List V) (Q : VK),
      Room k (A.deeper (envOfC ql (defScope st) s.heap.objs.size f cd)) → A.guards = some [] → sp vs H Q E0 →
      ∃ t, PSs (cxOf CX0 P w K mg base N ql (defScope st) f cd A out s H E0).nox (defBody st) t ∧ t { nx := fun _ H' => Q .non H', rt := Q } (L2.start N vs) H) :
    FnG P w K mg base (k + 1) f fd ps sp := by
  obtain ⟨oc, od, kV, doc, pm, an, cd, ct, osl, e, lk, hcd⟩ := Fu.ex
  subst e
  exact fng_of lk hcd Sc len (hb cd)
/-- a def keeps its promise, by its body -/
theorem fn_okG {x ql : Str} {st : Stmt} {f : Addr} {fd : FuncData} {N ps : List Str} {k : Nat} {body : SS} {t : TS} (he : EvT K t body) (Fu : Fun K x ql st f fd) (Sc : FnScope N ps (defScope st))
    (hb : ∀ (cd : Value) (A : Around) (out : List PySem.Env) (s : Shared) (H : Hp),
      Room k (A.deeper (envOfC ql (defScope st) s.heap.objs.size f cd)) → A.guards = some [] →
      PSs (cxOf CX0 P w K mg base N ql (defScope st) f cd A out s H E0).nox (defBody st) t) :
    FnG P w K mg base (k + 1) f fd ps (spF K ps.length (mkF N.length body)) := by
  refine fng_fun Fu Sc (fun vs H Q E h => ?_) (fun cd A out s H vs Q hr hgu h => ?_)
  · obtain ⟨args, M, r, M', F, π, G, _, hl, _, hs, _⟩ := h
    rw [← hs.length, hl]
  · obtain ⟨args, M, r, M', F, π, G, hf, hl, R, hs, q⟩ := h
    refine ⟨t, hb cd A out s H hr hgu, ?_⟩
    unfold mkF at hf
    obtain ⟨c, hc, hf⟩ := Option.bind_eq_some_iff.mp hf
    refine he _ M c hc F π G H (L2.start N vs) R (slots_start hs) _ ?_
    cases c with
    | nx ρ M1 =>
      intro π' G' H' σ' g R' S'
      obtain ⟨π'', g2, R2, s2⟩ := fin_ok hf R.len g R' (.dat .non)
      exact q π'' G' H' _ g2 R2 s2
    | rt v M1 =>
      intro π' G' H' u g R' s'
      obtain ⟨π'', g2, R2, s2⟩ := fin_ok hf R.len g R' s'
      exact q π'' G' H' _ g2 R2 s2
    | bk _ _ => cases hf
    | ct _ _ => cases hf
/-- a def of which nothing is asked -/
theorem fn_noneG {x ql : Str} {st : Stmt} {f : Addr} {fd : FuncData} {N ps : List Str} {k : Nat} (Fu : Fun K x ql st f fd) (Sc : FnScope N ps (defScope st)) : FnG P w K mg base (k + 1) f fd ps (spF K ps.length (fun _ _ => none)) := by
  refine fng_fun Fu Sc (fun vs H Q E h => ?_) (fun cd A out s H vs Q hr hgu h => ?_)
  · obtain ⟨args, M, r, M', F, π, G, h, _⟩ := h
    cases h
  · obtain ⟨args, M, r, M', F, π, G, h, _⟩ := h
    cases h
end
/-! ### its call -/
section
variable {X : Cx} {k : Nat} {f : Addr} {fd : FuncData} {ps : List Str} {sp : Sp} {x : Str} {p pos : Pos} {e : Expr} {es : List Expr} {t : TA}
theorem run_fnG {pins : List (Addr × Obj)} {σ : L2.St} {H : Hp} {s : Shared} {Q : VK} {us : List Value} {vs : List V} (F : FnG X.prog X.w X.K X.mg X.base k f fd ps sp) (hr : Room k X.A) (hgu : X.A.guards = some []) (hb : Binds X.K fd ps [])
    (I : Inv X pins σ H s) (r : Vals vs us) (h : sp vs H Q E0) : wpAny (model X.prog X.w) X.A (call (.ref f) us) (EP X pins σ Q) X.xe s := by
  have hl : us.length = ps.length := by rw [← r.length]; exact F.len vs H Q E0 h
  have bd := hb s us I.kIn (by rw [List.append_nil]; exact hl)
  rw [List.append_nil] at bd
  refine wpAny_call (codeAny_mono (F.run X.A X.stack s H ⟨us, []⟩ us vs Q hr hgu I.env0 bd r h) ?_)
  intro res s' hq
  match res, hq with
  | .error _, hq => exact False.elim hq
  | .ok (.ret _), hq => exact I.after hq
  | .ok .next, hq => exact False.elim hq
  | .ok .brk, hq => exact False.elim hq
  | .ok .cont, hq => exact False.elim hq
theorem pe_callG (F : FnG X.prog X.w X.K X.mg X.base k f fd ps sp) (hr : Room k X.A) (hgu : X.A.guards = some []) (hg : Gl X x) (hm : X.mg x = some (.ref f)) (hk : PySem.W.keepIn X.K (.ref f) = true) (hb : Binds X.K fd ps [])
    (ha : PA X (e :: es) t) (hdb : (x == ("__debug__" : Str)) = false := by decide)
    (he : starEach (e :: es) X.env = (false, eval e X.env) :: starEach es X.env := by rfl)
    (hpl : (backTo pos (starEach es X.env)).any (·.1) = false := by rfl) :
    PE X (.Call (.Name x p) (e :: es) [] pos) (tCall sp [] E0 t) := by
  constructor
  intro pins s σ H Q I h
  refine wpAny_Call_Name_kw (ld_glob I hg hm ?_ hdb)
  have args := ha.run pos pins s σ H _ I h
  refine PySem.W.callWith_K (h₀ := X.base) I.ok.mod.kin hk (thn args ?_) he hpl
  rintro us s1 ⟨vs, H1, I1, r, q⟩
  rw [List.append_nil] at q
  exact ⟨I1.kIn, run_fnG F hr hgu hb I1 r q⟩
theorem pe_callG0 (F : FnG X.prog X.w X.K X.mg X.base k f fd ps sp) (hr : Room k X.A) (hgu : X.A.guards = some []) (hg : Gl X x) (hm : X.mg x = some (.ref f)) (hk : PySem.W.keepIn X.K (.ref f) = true) (hb : Binds X.K fd ps [])
    (hdb : (x == ("__debug__" : Str)) = false := by decide) : PE X (.Call (.Name x p) [] [] pos) (tCall sp [] E0 tNil) := by
  constructor
  intro pins s σ H Q I h
  refine wpAny_Call_Name_kw (ld_glob I hg hm ?_ hdb)
  have h' : sp [] H Q E0 := h
  exact PySem.W.callWith_K0 I.kIn hk (run_fnG (us := []) F hr hgu hb I .nil h')
end

/-! ### the law's end -/
theorem law_callG {P : Program} {w : World} {K : PySem.W.Frag} {mg mb : Str → Option Value} {k : Nat} {fa a : Addr} {fd : FuncData} {x : Str} {sp : Sp} {s1 : Shared} {us : List Value} {ns : List Int}
    (KX : K.In s1.heap) (hns : s1.heap.Ns mainGlobals mg) (hbt : s1.heap.Ns builtinsNs mb) (hbb : ∀ y : Str, y ≠ "__name__" → mb y = bootBuiltins y)
    (hlim : s1.heap.NoLimit) (hgen : s1.gens = #[]) (ha : s1.heap.get? a = some { cls := .type "list", data := .seq us.toArray })
    (hi : IntsAre us ns) (hl : ns.length ≤ sizeLine) (hr : Room k callerA)
    (F : ∀ base : Heap, K.In base → base.Ns mainGlobals mg → FnG P w K mg base k fa fd [x] sp)
    (hbind : ∀ (s : Shared) (u : Value), BindsTo s fd ⟨[u], []⟩ [(x, u)])
    (hsp : ∀ H : Hp, SqL K H a (ns.map V.int) → sp [.ref a] H (fun v _ => v = .bl true) E0) :
    codeAny (model P w) callerA (.call (.ref fa) ⟨[.ref a], []⟩)
      (fun r s' => r = .ok (.ret (.bool true)) ∧ OldK s1.heap s'.heap ∧ s'.os = s1.os ∧ AllBare s'.gens) s1 := by
  -- the script is tracked as locked, unless it is one of the module's own objects
  have main : ∀ H : Hp, SqL K H a (ns.map V.int) → HOk P w H s1.heap →
      (∀ b u, H b = some u → b = a ∧ K.lookup a = none ∧ ∃ ys, u = .frz { cls := .type "list", data := .seq us.toArray } (.lst ys)) →
      codeAny (model P w) callerA (.call (.ref fa) ⟨[.ref a], []⟩)
        (fun r s' => r = .ok (.ret (.bool true)) ∧ OldK s1.heap s'.heap ∧ s'.os = s1.os ∧ AllBare s'.gens) s1 := by
    intro H hS hok only
    have free : ∀ {b : Addr} {o : Obj} {es : Array DictEntry} {ep : Nat}, s1.heap.get? b = some o → o.data = .dict es ep → H b = none := by
      intro b o es ep e d
      match q : H b with
      | none => rfl
      | some u =>
        obtain ⟨rfl, _, _⟩ := only b u q
        rw [ha] at e
        cases e
        exact absurd d (fun z => nomatch z)
    have ns' : ∀ {b : Addr} {m : Str → Option Value}, s1.heap.Ns b m → (hidT s1.heap H).Ns b m := by
      rintro b m ⟨o, es, ep, e, d, r⟩
      exact ⟨o, es, ep, hidT_get e (free e d), d, r⟩
    have kin : K.In (hidT s1.heap H) := by
      intro b o e
      refine hidT_get (KX b o e) ?_
      match q : H b with
      | none => rfl
      | some u =>
        obtain ⟨rfl, hn, _⟩ := only b u q
        rw [hn] at e
        cases e
    obtain ⟨mc, l1, l2⟩ := hlim
    have md : Mod K mg (hidT s1.heap H) := ⟨kin, ns' hns, ⟨mb, ns' hbt, hbb⟩, ⟨mc, ns' l1, l2⟩⟩
    have env : Env0 P w K mg (hidT s1.heap H) callerA [] s1 H := by
      refine ⟨rfl, md, fun b o e => of_hidT e, Nat.le_of_eq (hidT_size _ _), trivial, ?_, hok, .of_eq hgen⟩
      intro b hb
      cases hb
    have go := (F _ kin (ns' hns)).run callerA [] s1 H ⟨[.ref a], []⟩ [.ref a] [.ref a] _ hr rfl env (hbind s1 (.ref a)) (.cons rfl .nil) (hsp H hS)
    refine codeAny_mono go ?_
    intro r s' h
    match r, h with
    | .error _, h => exact False.elim h
    | .ok .next, h => exact False.elim h
    | .ok .brk, h => exact False.elim h
    | .ok .cont, h => exact False.elim h
    | .ok (.ret u), h =>
      obtain ⟨v, H', os, bare, un, hok', ru, q⟩ := h
      have qv : v = .bl true := q
      subst qv
      have qu : u = Value.bool true := ru
      subst qu
      refine ⟨rfl, OldK.of_keep ?_, os, bare⟩
      intro b o e
      match q : H b with
      | none =>
        refine un.keep b o e q ?_ ?_
        · intro z; cases z
        · intro z; cases z
      | some u =>
        obtain ⟨rfl, _, ys, rfl⟩ := only b u q
        obtain ⟨e2, _⟩ := hok' b _ (un.frzs b _ _ q)
        rw [ha] at e
        cases e
        exact e2
  have rv : Vals (ns.map V.int) us := vals_ints hi
  match hk : K.lookup a with
  | some o =>
    have e := KX a o hk
    rw [ha] at e
    cases e
    have len : us.toArray.size ≤ sizeLine := by rw [List.size_toArray, hi.length]; exact hl
    refine main (fun _ => none) (Or.inr ⟨_, us.toArray, _, hk, rfl, rfl, rfl, len, by simpa using rv⟩) ?_ ?_
    · intro b u z; cases z
    · intro b u z; cases z
  | none =>
    refine main (upd (fun _ => none) a (.frz { cls := .type "list", data := .seq us.toArray } (.lst (ns.map V.int)))) (Or.inl (Or.inr ⟨_, upd_same⟩)) ?_ ?_
    · intro b u z
      by_cases hb : b = a
      · subst hb
        rw [upd_same] at z
        cases z
        exact ⟨ha, by rw [List.length_map]; exact hl, us, _, rv, ha⟩
      · rw [upd_ne hb] at z; cases z
    · intro b u z
      by_cases hb : b = a
      · subst hb
        rw [upd_same] at z
        cases z
        exact ⟨rfl, hk, _, rfl⟩
      · rw [upd_ne hb] at z; cases z
/-- the law holds where its plain function says True of every script -/
theorem walk_G {l : PySem.W.OpenLaw} {n k : Nat} {q : Program} {loose : List Str} {XP : (Str → Option Value) → Heap → Prop} {YP : World → Heap → Prop} {d : DefRec} {K : Params → PySem.W.Frag} {f : SF} {x : Str}
    (hn : l.most = some n) (hn2 : n ≤ sizeLine) (hdf : d.params.defaults = []) (hr : Room k callerA)
    (hY : ∀ (w : World) (h : Heap), YP w h → (K w.params).In h)
    (F : ∀ (w : World) (mg : Str → Option Value) (fa : Addr) (h : Heap), (K w.params).In h → h.Ns mainGlobals mg → mg d.name = some (.ref fa) →
      ∃ fd : FuncData, (∀ (s : Shared) (u : Value), BindsTo s fd ⟨[u], []⟩ [(x, u)]) ∧
        ∀ base : Heap, (K w.params).In base → base.Ns mainGlobals mg → FnG l.prog w (K w.params) mg base k fa fd [x] (spF (K w.params) 1 f))
    (hf : ∀ ns : List Int, ns.length ≤ n → (∀ z ∈ ns, Builtin.Int.intBits z ≤ 1048576) → ∃ M, f [.dat (.list (ns.map PyData.int))] [] = some (.dat (.bool true), M)) :
    PySem.W.WalkO q loose XP YP l.row.toRowW d [] (fun g vs => PySem.call g vs) := by
  refine Att.attach_callB hn hdf ?_
  intro w s0 s1 mg mb fa o pm cd doc a us ns G Y ho hd hcd hmg hobj hints hlen hbits hgen
  have KX := hY w _ Y
  obtain ⟨fd, bd, FF⟩ := F w mg fa _ KX G.T.g hmg
  refine law_callG KX G.T.g G.T.b G.T.builtins G.T.nolimit hgen hobj hints (Nat.le_trans hlen hn2) hr FF bd ?_
  intro H hS
  obtain ⟨M, e⟩ := hf ns hlen hbits
  have allI : ∀ (ks : List Int), DqAll (K w.params) H (ks.map V.int) (ks.map PyData.int) := by
    intro ks
    induction ks with
    | nil => exact .nil
    | cons z ks ih => exact .cons (.int z) ih
  refine ⟨_, [], _, M, fun _ => none, [], H, e, rfl, ⟨Same.refl H, ?_, rfl, ?_, ?_, ?_⟩, .cons (.dat (.lst hS (allI ns))) .nil, ?_⟩
  · intro b u z; cases z
  · intro i xs z; simp at z
  · intro i j xs ys b z; simp at z
  · intro i xs z; simp at z
  · intro π' G' H' v _ _ s'
    cases s' with
    | dat h => cases h; rfl
end Sm

namespace Sm
open PySem PySem.Spec PyProof.Rows L2

/-! ### operations on data -/
def lift2 (g : PyData → PyData → Option PyData) : Mem → SV → SV → Option SV := fun _ x y => match x, y with
  | .dat d, .dat e => (g d e).bind fun r => some (.dat r)
  | _, _ => none
def lift1 (g : PyData → Option PyData) : Mem → SV → Option SV := fun _ x => match x with
  | .dat d => (g d).bind fun r => some (.dat r)
  | _ => none
/-- by data alone -/
def OpD (K : PySem.W.Frag) (r : R2) (g : PyData → PyData → Option PyData) : Prop := ∀ x y z, g x y = some z → ∀ G H v w, Same G H → Dq K G v x → Dq K G w y →
  ∀ Q : VK, (∀ G' H' u, Al G H G' H' → Dq K G' u z → Q u H') → r v w H Q
def UnD (K : PySem.W.Frag) (r : V → Hp → VK → Prop) (g : PyData → Option PyData) : Prop := ∀ x z, g x = some z → ∀ G H v, Same G H → Dq K G v x →
  ∀ Q : VK, (∀ G' H' u, Al G H G' H' → Dq K G' u z → Q u H') → r v H Q
section
variable {K : PySem.W.Frag}
theorem os_lift {r : R2} {g : PyData → PyData → Option PyData} (h : OpD K r g) : OpS K r (lift2 g) := by
  intro M x y z e F π G H v w R sx sy Q q
  cases sx with
  | cel _ => cases y <;> cases e
  | dat dx =>
    cases sy with
    | cel _ => cases e
    | dat dy =>
      obtain ⟨r', h1, h2⟩ := Option.bind_eq_some_iff.mp e
      cases h2
      exact h _ _ _ h1 G H v w R.ex dx dy Q fun G' H' u al d => q G' H' u al (.dat d)
theorem us_lift {r : V → Hp → VK → Prop} {g : PyData → Option PyData} (h : UnD K r g) : UnS K r (lift1 g) := by
  intro M x z e F π G H v R sx Q q
  cases sx with
  | cel _ => cases e
  | dat dx =>
    obtain ⟨r', h1, h2⟩ := Option.bind_eq_some_iff.mp e
    cases h2
    exact h _ _ h1 G H v R.ex dx Q fun G' H' u al d => q G' H' u al (.dat d)

/-! ints -/
def dI (g : Int → Int → Option PyData) : PyData → PyData → Option PyData
  | .int i, .int j => g i j
  | _, _ => none
theorem od_I0 {g : Int → Int → V} {g' : Int → Int → PyData} (h : ∀ i j G, Dq K G (g i j) (g' i j)) : OpD K (rI0 g) (dI fun i j => some (g' i j)) := by
  intro x y z e G H v w sm dx dy Q q
  cases dx <;> cases dy <;> first | cases e | skip
  exact ⟨_, _, rfl, rfl, q G H _ .same (h _ _ G)⟩
theorem od_I {C : Int → Int → Prop} {g : Int → Int → V} {g' : Int → Int → PyData} {c : Int → Int → Bool} (h : ∀ i j G, Dq K G (g i j) (g' i j)) (hc : ∀ i j, c i j = true → C i j) : OpD K (rI C g) (dI fun i j => if c i j = true then some (g' i j) else none) := by
  intro x y z e G H v w sm dx dy Q q
  cases dx <;> cases dy <;> first | cases e | skip
  rename_i i j
  unfold dI at e
  dsimp only at e
  split at e
  · rename_i hh
    cases e
    exact ⟨_, _, rfl, rfl, hc _ _ hh, q G H _ .same (h _ _ G)⟩
  · cases e
def dSub : PyData → PyData → Option PyData := dI fun i j => some (.int (i - j))
def dLt : PyData → PyData → Option PyData := dI fun i j => some (.bool (decide (i < j)))
def dLe : PyData → PyData → Option PyData := dI fun i j => some (.bool (decide (i ≤ j)))
def dGt : PyData → PyData → Option PyData := dI fun i j => some (.bool (decide (j < i)))
def dGe : PyData → PyData → Option PyData := dI fun i j => some (.bool (decide (j ≤ i)))
def dDiv : PyData → PyData → Option PyData := dI fun i j => if (decide (0 < j) && decide (j < 2 ^ 64)) = true then some (.int (i / j)) else none
def dMod : PyData → PyData → Option PyData := dI fun i j => if (decide (0 < j)) = true then some (.int (i % j)) else none
def dPow : PyData → PyData → Option PyData := dI fun i j => if (decide (0 ≤ j) && decide (j ≤ 64) && decide (-(2 ^ 64) < i) && decide (i < 2 ^ 64)) = true then some (.int (i ^ j.toNat)) else none
def mulOk (i j : Int) : Bool := (decide (-(2 ^ 64) < i) && decide (i < 2 ^ 64)) || (decide (-(2 ^ 64) < j) && decide (j < 2 ^ 64))
theorem os_sub : OpS K (rI0 fun i j => .int (i - j)) (lift2 dSub) := os_lift (od_I0 fun _ _ _ => .int _)
theorem os_lt : OpS K (rI0 fun i j => .bl (decide (i < j))) (lift2 dLt) := os_lift (od_I0 fun _ _ _ => .bl _)
theorem os_le : OpS K (rI0 fun i j => .bl (decide (i ≤ j))) (lift2 dLe) := os_lift (od_I0 fun _ _ _ => .bl _)
theorem os_gt : OpS K (rI0 fun i j => .bl (decide (j < i))) (lift2 dGt) := os_lift (od_I0 fun _ _ _ => .bl _)
theorem os_ge : OpS K (rI0 fun i j => .bl (decide (j ≤ i))) (lift2 dGe) := os_lift (od_I0 fun _ _ _ => .bl _)
theorem os_div : OpS K (rI CDivW fun i j => .int (i / j)) (lift2 dDiv) := os_lift (od_I (fun _ _ _ => .int _) fun i j h => by
  rw [Bool.and_eq_true, decide_eq_true_eq, decide_eq_true_eq] at h
  exact wide_div (b := 64) h.1 (by omega) (by decide) (by decide))
theorem os_mod : OpS K (rI (fun _ j => 0 < j) fun i j => .int (i % j)) (lift2 dMod) := os_lift (od_I (fun _ _ _ => .int _) fun i j h => of_decide_eq_true h)
theorem os_pow : OpS K (rI CPow fun i j => .int (i ^ j.toNat)) (lift2 dPow) := os_lift (od_I (fun _ _ _ => .int _) fun i j h => by
  simp only [Bool.and_eq_true, decide_eq_true_eq] at h
  exact ⟨h.1.1.1, by omega, by omega⟩)

/-! + and * -/
def rCatL (K : PySem.W.Frag) : R2 := fun x y H Q => ∃ a b xs ys, x = .ref a ∧ y = .ref b ∧ SqL K H a xs ∧ SqL K H b ys ∧ xs.length + ys.length ≤ sizeLine ∧ ∀ p, H p = none → Q (.ref p) (upd H p (.lst (xs ++ ys)))
theorem op_catL {X : Cx} : OpR X (binaryOp .Add) (rCatL X.K) := by
  intro pins s σ H x y v u Q I rx ry h
  obtain ⟨a, b, xs, ys, rfl, rfl, ha, hb, hz, q⟩ := h
  cases rx
  cases ry
  obtain ⟨its, r1, p1, _⟩ := I.list ha
  obtain ⟨its2, r2, p2, _⟩ := I.list hb
  obtain ⟨⟨c1, d1, dt1, sl1⟩, n1, o1, hc1, hd1, hs1⟩ := p1
  obtain ⟨⟨c2, d2, dt2, sl2⟩, n2, o2, hc2, hd2, hs2⟩ := p2
  dsimp only at hc1 hd1 hs1 hc2 hd2 hs2
  subst hc1 hs1 hc2 hs2
  have l1 := r1.length
  have l2 := r2.length
  have ea : its.toArray ++ its2.toArray = (its ++ its2).toArray := by simp
  refine concat_meets ⟨_, o1, rfl⟩ ⟨_, o2, rfl⟩ noFill_list_add seq_list_add PySem.F.slot_list_add PySem.F.entry_list_add
    (PySem.F.args_list_add_2 _ _) (list_addW a b its.toArray its2.toArray n1 n2 d1 d2 sl1 sl2 (by simp only [List.size_toArray]; omega)) ⟨o1, o2, ?_⟩
  rw [ea]
  refine ⟨.ref s.heap.objs.size, _, I.laid (t' := s.toks) (o := .lst (xs ++ ys)) (fun b ob q => Heap.get?_push_of_some _ q) (Nat.le_refl _) ?_, rfl, q _ (I.hok.fresh (Nat.le_refl _))⟩
  exact ⟨by rw [List.length_append]; exact hz, _, 0, r1.append r2, Heap.get?_push_size _ rfl⟩
theorem OpR.or {X : Cx} {f : Value → Value → Sem Value} {r r' : R2} (h : OpR X f r) (h' : OpR X f r') : OpR X f (fun x y H Q => r x y H Q ∨ r' x y H Q) := by
  intro pins s σ H x y v u Q I rx ry q
  rcases q with q | q
  · exact h pins s σ H x y v u Q I rx ry q
  · exact h' pins s σ H x y v u Q I rx ry q
def rAddA (K : PySem.W.Frag) : R2 := fun x y H Q => rI0 (fun i j => .int (i + j)) x y H Q ∨ (rCatA K x y H Q ∨ rCatL K x y H Q)
theorem op_addA {X : Cx} : OpR X (binaryOp .Add) (rAddA X.K) := OpR.or op_add (OpR.or op_catA op_catL)
def dAdd : PyData → PyData → Option PyData
  | .int i, .int j => some (.int (i + j))
  | .tuple xs, .tuple ys => if xs.length + ys.length ≤ 100000 then some (.tuple (xs ++ ys)) else none
  | .list xs, .list ys => if xs.length + ys.length ≤ 100000 then some (.list (xs ++ ys)) else none
  | _, _ => none
theorem os_add : OpS K (rAddA K) (lift2 dAdd) := os_lift (by
  intro x y z e G H v w sm dx dy Q q
  cases dx <;> cases dy <;> first | cases e | skip
  · exact .inl ⟨_, _, rfl, rfl, q G H _ .same (.int _)⟩
  · rename_i a xs ds hs ha b ys es hs' ha'
    unfold dAdd at e
    dsimp only at e
    split at e
    · rename_i hz
      cases e
      refine .inr (.inr ⟨a, b, xs, ys, rfl, rfl, sm.seq hs, sm.seq hs', sz (by rw [ha.length, ha'.length]; exact hz), fun p hp => ?_⟩)
      have sg : Same G (upd G p (.lst (xs ++ ys))) := same_upd (none_of_same sm hp)
      exact q _ _ _ (.new hp) (.lst (SqL.of upd_same) ((ha.append ha').mono sg))
    · cases e
  · rename_i a xs ds hs ha b ys es hs' ha'
    unfold dAdd at e
    dsimp only at e
    split at e
    · rename_i hz
      cases e
      refine .inr (.inl ⟨a, b, xs, ys, rfl, rfl, same_sqT sm hs, same_sqT sm hs', sz (by rw [ha.length, ha'.length]; exact hz), fun e => ?_, fun _ e => ?_, fun _ _ p hp => ?_⟩)
      · subst e
        cases ha
        exact q G H _ .same (.tup hs' ha')
      · subst e
        cases ha'
        rw [List.append_nil] at q
        exact q G H _ .same (.tup hs ha)
      · have sg : Same G (upd G p (.tup (xs ++ ys))) := same_upd (none_of_same sm hp)
        exact q _ _ _ (.new hp) (.tup (SqT.of upd_same) ((ha.append ha').mono sg))
    · cases e)
theorem tup_mul1 (l : Addr) (its : Array Value) (n : Nat) (dd : Option Addr) (sl : Array (Option Value)) (u : Tok) :
    Meets (Builtin.«tuple.__mul__» ⟨[.ref l, .int 1 u], []⟩) (fun _ R s => s.heap.get? l = some { cls := .type "tuple", dict := dd, data := .seq its n, slots := sl } ∧ R (.ok (.ret (.ref l))) s) :=
  .of_wp fun prog w A R s h => by
    obtain ⟨hp, g, d, tk, os⟩ := s
    obtain ⟨hl, h⟩ := h
    have idx := AutoSeq1.idx_int
    have c1 : (its.isEmpty || (1 : Int) == 1) = true := by simp
    wp_walk using wpAny_loadPart' hl
    repeat (first
      | (refine wpAny_ite_false (decide_eq_false (by decide)) ?_; wp_walk using wpAny_loadPart' hl)
      | (refine wpAny_ite_true (decide_eq_true c1) ?_; wp_walk using wpAny_loadPart' hl))
    exact ⟨_, rfl, h⟩
theorem tup_mul0 (l : Addr) (its : Array Value) (n : Nat) (dd : Option Addr) (sl : Array (Option Value)) (u : Tok) (hne : its.isEmpty = false) :
    Meets (Builtin.«tuple.__mul__» ⟨[.ref l, .int 0 u], []⟩) (fun _ R s => s.heap.get? l = some { cls := .type "tuple", dict := dd, data := .seq its n, slots := sl } ∧
      R (.ok (.ret (Value.ref s.heap.objs.size))) { s with heap := s.heap.push { cls := Value.type "tuple", data := Data.seq #[] }, toks := s.toks }) :=
  .of_wp fun prog w A R s h => by
    obtain ⟨hp, g, d, tk, os⟩ := s
    obtain ⟨hl, h⟩ := h
    have idx := AutoSeq1.idx_int
    have c1 : (its.isEmpty || (0 : Int) == 1) = false := by rw [hne]; rfl
    have c2 : (decide ((0 : Int) ≤ 0) || its.isEmpty) = true := by simp
    wp_walk using wpAny_loadPart' hl
    repeat (first
      | (refine wpAny_ite_false (decide_eq_false (by decide)) ?_; wp_walk using wpAny_loadPart' hl)
      | (refine wpAny_ite_false (decide_eq_false (by rw [c1]; exact Bool.false_ne_true)) ?_; wp_walk using wpAny_loadPart' hl)
      | (refine wpAny_ite_true (decide_eq_true c2) ?_; wp_walk using wpAny_loadPart' hl))
    exact ⟨_, rfl, h⟩
/-- a tuple once, and not at all -/
def rRep01 (K : PySem.W.Frag) : R2 := fun x y H Q => ∃ l xs, x = .ref l ∧ SqT K H l xs ∧ ((y = .int 1 ∧ Q (.ref l) H) ∨ (y = .int 0 ∧ xs ≠ [] ∧ ∀ p, H p = none → Q (.ref p) (upd H p (.tup []))))
theorem op_rep01 {X : Cx} : OpR X (binaryOp .Mult) (rRep01 X.K) := by
  intro pins s σ H x y v u Q I rx ry h
  obtain ⟨l, xs, rfl, hT, h⟩ := h
  cases rx
  obtain ⟨its, r, ⟨⟨cls, dd, data, sl⟩, ho, hc, n, hd⟩, hs⟩ := I.tuple hT
  dsimp only at hc hd
  subst hc hd
  have ty : s.TypeIs (.ref l) "tuple" := ⟨_, ho, rfl⟩
  rcases h with ⟨rfl, q⟩ | ⟨rfl, hne, q⟩
  · obtain ⟨t, rfl⟩ := ry
    have fin := call_meets F.slot_tuple_mul (s := s) (A := X.A) (prog := X.prog) (w := X.w) ty F.entry_tuple_mul
      (F.args_tuple_mul_2 _ _) (tup_mul1 l its.toArray n dd sl t) (Q := EP X pins σ Q) (E := X.xe) ⟨ho, .ref l, H, I, rfl, q⟩
    refine wpAny_binaryOp_repeat_ref (T := "tuple") (U := "int") (by decide) ⟨_, ho, rfl⟩ (fun s' => typeIs_int s' 1 t) noFill_tuple_mul
      F.fills_int_mul F.slot_int_rmul repeat_tuple F.slot_int_index.lookup ?_
    exact call_meets F.slot_int_rmul (typeIs_int s 1 t) F.entry_int_rmul (F.args_int_rmul_2 _ _)
      (int_rmul_tuple 1 t l its.toArray n dd sl) ⟨ho, rfl, ⟨_, ho, rfl⟩, fin⟩
  · obtain ⟨t, rfl⟩ := ry
    have hi : its.toArray.isEmpty = false := by
      cases r with
      | nil => exact absurd rfl hne
      | cons _ _ => rfl
    have nw : Inv X pins σ (upd H s.heap.objs.size (.tup [])) { s with heap := s.heap.push { cls := Value.type "tuple", data := Data.seq #[] }, toks := s.toks } :=
      I.laid (t' := s.toks) (o := .tup []) (fun b ob q => Heap.get?_push_of_some _ q) (Nat.le_refl _) ⟨Nat.zero_le _, [], .nil, IsTup.new _ _⟩
    have fin := call_meets F.slot_tuple_mul (s := s) (A := X.A) (prog := X.prog) (w := X.w) ty F.entry_tuple_mul
      (F.args_tuple_mul_2 _ _) (tup_mul0 l its.toArray n dd sl t hi) (Q := EP X pins σ Q) (E := X.xe) ⟨ho, .ref _, _, nw, rfl, q _ (I.hok.fresh (Nat.le_refl _))⟩
    refine wpAny_binaryOp_repeat_ref (T := "tuple") (U := "int") (by decide) ⟨_, ho, rfl⟩ (fun s' => typeIs_int s' 0 t) noFill_tuple_mul
      F.fills_int_mul F.slot_int_rmul repeat_tuple F.slot_int_index.lookup ?_
    exact call_meets F.slot_int_rmul (typeIs_int s 0 t) F.entry_int_rmul (F.args_int_rmul_2 _ _)
      (int_rmul_tuple 0 t l its.toArray n dd sl) ⟨ho, rfl, ⟨_, ho, rfl⟩, fin⟩
def rMulA (K : PySem.W.Frag) : R2 := fun x y H Q => rI CMul (fun i j => .int (i * j)) x y H Q ∨ (rRepT K x y H Q ∨ rRep01 K x y H Q)
theorem op_mulA {X : Cx} : OpR X (binaryOp .Mult) (rMulA X.K) := OpR.or op_mul (OpR.or op_repT op_rep01)
def dMul : PyData → PyData → Option PyData
  | .int i, .int j => if mulOk i j = true then some (.int (i * j)) else none
  | .tuple xs, .int k => if xs ≠ [] ∧ 0 ≤ k ∧ k ≤ 1000 ∧ xs.length ≤ 1000 then some (.tuple (List.replicate k.toNat xs).flatten) else none
  | _, _ => none
theorem os_mul : OpS K (rMulA K) (lift2 dMul) := os_lift (by
  intro x y z e G H v w sm dx dy Q q
  cases dx <;> cases dy <;> first | cases e | skip
  · unfold dMul at e
    dsimp only at e
    split at e
    · rename_i hh
      cases e
      refine .inl ⟨_, _, rfl, rfl, ?_, q G H _ .same (.int _)⟩
      unfold mulOk at hh
      simp only [Bool.or_eq_true, Bool.and_eq_true, decide_eq_true_eq] at hh
      exact hh
    · cases e
  · rename_i a xs ds hs ha k
    unfold dMul at e
    dsimp only at e
    split at e
    · rename_i hh
      cases e
      have ne : xs ≠ [] := fun z => by subst z; cases ha; exact hh.1 rfl
      by_cases h2 : 2 ≤ k
      · refine .inr (.inl ⟨a, k, xs, rfl, rfl, same_sqT sm hs, ne, h2, hh.2.2.1, by rw [ha.length]; exact hh.2.2.2, fun p hp => ?_⟩)
        have sg : Same G (upd G p (.tup (List.replicate k.toNat xs).flatten)) := same_upd (none_of_same sm hp)
        exact q _ _ _ (.new hp) (.tup (SqT.of upd_same) ((DqAll.flat k.toNat ha).mono sg))
      · have k01 : k = 1 ∨ k = 0 := by omega
        rcases k01 with rfl | rfl
        · refine .inr (.inr ⟨a, xs, rfl, same_sqT sm hs, .inl ⟨rfl, q G H _ .same ?_⟩⟩)
          have e1 : (List.replicate (1 : Int).toNat ds).flatten = ds := by simp
          rw [e1]
          exact .tup hs ha
        · refine .inr (.inr ⟨a, xs, rfl, same_sqT sm hs, .inr ⟨rfl, ne, fun p hp => ?_⟩⟩)
          exact q _ _ _ (.new hp) (.tup (SqT.of upd_same) .nil)
    · cases e)
def dNeg : PyData → Option PyData
  | .int i => some (.int (-i))
  | _ => none
theorem us_neg : UnS K (rU fun i => .int (-i)) (lift1 dNeg) := us_lift (by
  intro x z e G H v sm dx Q q
  cases dx <;> first | cases e | skip
  exact ⟨_, rfl, q G H _ .same (.int _)⟩)

/-! == and != -/
mutual
theorem Dq.dp {G H : Hp} (sm : Same G H) : ∀ (d : PyData) (v : V), d.canLay0 = true → Dq K G v d → Dp K H v d
  | .none, _, _, h => by cases h; exact .non
  | .bool b, _, _, h => by cases h; exact .bl b
  | .int i, _, _, h => by cases h; exact .int i
  | .str x, _, _, h => by cases h; exact .str x
  | .list ds, _, c, h => by
    cases h with
    | lst hs ha => exact .lst (sm.seq hs) (Dq.dpAll sm ds _ (by simpa [PyData.canLay0] using c) ha)
  | .tuple ds, _, c, h => by
    cases h with
    | tup hs ha => exact .tup (same_sqT sm hs) (Dq.dpAll sm ds _ (by simpa [PyData.canLay0] using c) ha)
  | .dict ds, _, c, _ => by simp [PyData.canLay0] at c
theorem Dq.dpAll {G H : Hp} (sm : Same G H) : ∀ (ds : List PyData) (vs : List V), PyData.canLayAll0 ds = true → DqAll K G vs ds → DpAll K H vs ds
  | [], _, _, h => by cases h; exact .nil
  | d :: ds, _, c, h => by
    cases h with
    | cons h1 h2 =>
      have c' : d.canLay0 = true ∧ PyData.canLayAll0 ds = true := by simpa [PyData.canLayAll0] using c
      exact .cons (Dq.dp sm d _ c'.1 h1) (Dq.dpAll sm ds _ c'.2 h2)
end
def lenNe : PyData → PyData → Bool
  | .list xs, .list ys => !(xs.length == ys.length)
  | _, _ => false
def dEq : PyData → PyData → Option PyData
  | .int i, .int j => some (.bool (i == j))
  | .str x, .str y => some (.bool (x == y))
  | d, e => if (SeqAt.shaped d && SeqAt.shaped e) = true then some (.bool (PyData.eqv d e)) else if lenNe d e = true then some (.bool false) else none
def dNe : PyData → PyData → Option PyData
  | .int i, .int j => some (.bool (!(i == j)))
  | .str x, .str y => some (.bool (!(x == y)))
  | d, e => if (SeqAt.shaped d && SeqAt.shaped e) = true then some (.bool (!PyData.eqv d e)) else none
theorem sh_int (i : Int) : SeqAt.shaped (.int i) = true := by simp [SeqAt.shaped, PyData.canLay0, PyData.depth]
def rEqZ (K : PySem.W.Frag) : R2 := fun x y H Q => ∃ a b xs ys, x = .ref a ∧ y = .ref b ∧ SqL K H a xs ∧ SqL K H b ys ∧ xs.length ≠ ys.length ∧ Q (.bl false) H
theorem op_eqZ {X : Cx} (hu : X.A.units + 64 < cLine) : OpR X (compareOp .Eq) (rEqZ X.K) := by
  intro pins s σ H x y v u Q I rx ry h
  obtain ⟨a, b, xs, ys, rfl, rfl, ha, hb, hz, q⟩ := h
  cases rx
  cases ry
  obtain ⟨its, r1, p1, _⟩ := I.list ha
  obtain ⟨its2, r2, p2, _⟩ := I.list hb
  obtain ⟨o1, n1, g1, hc1, _, hd1⟩ := p1
  obtain ⟨o2, n2, g2, hc2, _, hd2⟩ := p2
  have l1 := r1.length
  have l2 := r2.length
  exact SeqAt.eq_list_lengthsAt ⟨o1, g1, hc1, n1, hd1⟩ ⟨o2, g2, hc2, n2, hd2⟩ (by simp; omega) (by omega) ⟨.bl false, H, I, rfl, q⟩
def rEqA (K : PySem.W.Frag) : R2 := fun x y H Q => rEqD K x y H Q ∨ (rEq x y H Q ∨ rEqZ K x y H Q)
def rNeA (K : PySem.W.Frag) : R2 := fun x y H Q => rNeD K x y H Q ∨ rNe x y H Q
theorem op_eqA {X : Cx} (hu : X.A.units + 64 < cLine) : OpR X (compareOp .Eq) (rEqA X.K) := OpR.or (op_eqD hu) (OpR.or op_eq (op_eqZ hu))
theorem op_neA {X : Cx} (hu : X.A.units + 64 < cLine) : OpR X (compareOp .NotEq) (rNeA X.K) := OpR.or (op_neD hu) op_ne
theorem os_eq : OpS K (rEqA K) (lift2 dEq) := os_lift (by
  intro x y z e G H v w sm dx dy Q q
  have gen : SeqAt.shaped x = true → SeqAt.shaped y = true → z = .bool (PyData.eqv x y) → rEqA K v w H Q := fun h1 h2 hz =>
    .inl ⟨x, y, Dq.dp sm x v (SeqAt.canLay_of_shaped h1) dx, Dq.dp sm y w (SeqAt.canLay_of_shaped h2) dy, h1, h2, q G H _ .same (by rw [hz]; exact .bl _)⟩
  unfold dEq at e
  split at e
  · cases e
    exact gen (sh_int _) (sh_int _) (by simp [PyData.eqv])
  · cases e
    cases dx
    cases dy
    refine .inr (.inl ⟨rfl, ?_⟩)
    rw [dec_str]
    exact q G H _ .same (.bl _)
  · split at e
    · rename_i hh
      rw [Bool.and_eq_true] at hh
      cases e
      exact gen hh.1 hh.2 rfl
    · split at e
      · rename_i hh
        cases e
        unfold lenNe at hh
        split at hh
        · cases dx with
          | lst hs ha =>
            cases dy with
            | lst hs' ha' =>
              refine .inr (.inr ⟨_, _, _, _, rfl, rfl, sm.seq hs, sm.seq hs', ?_, q G H _ .same (.bl _)⟩)
              rw [ha.length, ha'.length]
              simpa using hh
        · cases hh
      · cases e)
theorem os_ne : OpS K (rNeA K) (lift2 dNe) := os_lift (by
  intro x y z e G H v w sm dx dy Q q
  have gen : SeqAt.shaped x = true → SeqAt.shaped y = true → z = .bool (!PyData.eqv x y) → rNeA K v w H Q := fun h1 h2 hz =>
    .inl ⟨x, y, Dq.dp sm x v (SeqAt.canLay_of_shaped h1) dx, Dq.dp sm y w (SeqAt.canLay_of_shaped h2) dy, h1, h2, q G H _ .same (by rw [hz]; exact .bl _)⟩
  unfold dNe at e
  split at e
  · cases e
    exact gen (sh_int _) (sh_int _) (by simp [PyData.eqv])
  · cases e
    cases dx
    cases dy
    refine .inr ⟨rfl, ?_⟩
    rw [dec_str]
    exact q G H _ .same (.bl _)
  · split at e
    · rename_i hh
      rw [Bool.and_eq_true] at hh
      cases e
      exact gen hh.1 hh.2 rfl
    · cases e)
theorem room64 {X : Cx} {k : Nat} (hr : Room k X.A) : X.A.units + 64 < cLine := by have := hr.un; omega

/-! is None -/
def dIsN : PyData → PyData → Option PyData
  | .none, .none => some (.bool true)
  | .dict _, .none => some (.bool false)
  | .list _, .none => some (.bool false)
  | .tuple _, .none => some (.bool false)
  | .int _, .none => some (.bool false)
  | .str _, .none => some (.bool false)
  | .bool _, .none => some (.bool false)
  | _, _ => none
def rIsN' : R2 := fun x y H Q => y = .non ∧ Q (.bl (decide (x = .non))) H
theorem os_isN : OpS K rIsN' (lift2 dIsN) := os_lift (by
  intro x y z e G H v w sm dx dy Q q
  cases dy <;> (cases dx <;> first | cases e | skip)
  all_goals exact ⟨rfl, q G H _ .same (.bl _)⟩)

/-! in -/
def flatD : PyData → Bool
  | .none => true
  | .bool _ => true
  | .int _ => true
  | .str _ => true
  | _ => false
def inD (x : PyData) (xs : List PyData) : Bool := xs.any fun y => PyData.eqv y x
theorem flat_of {G : Hp} {v : V} {d : PyData} (h : Dq K G v d) (f : flatD d = true) : flatV v = true := by
  cases h <;> first | rfl | (simp [flatD] at f)
theorem eqV_of {G : Hp} {v w : V} {d e : PyData} (h : Dq K G v d) (h' : Dq K G w e) (f : flatD d = true) (f' : flatD e = true) : eqV v w = PyData.eqv d e := by
  cases h with
  | non => cases h' <;> first | (simp [eqV, PyData.eqv]; done) | (simp [flatD] at f')
  | bl b => cases h' <;> first | (simp [eqV, PyData.eqv]; done) | (simp [flatD] at f')
  | int i => cases h' <;> first | (simp [eqV, PyData.eqv]; done) | (simp [flatD] at f')
  | str x => cases h' <;> first | (simp [eqV, PyData.eqv]; done) | (simp [flatD] at f')
  | lst _ _ => simp [flatD] at f
  | tup _ _ => simp [flatD] at f
  | dic _ _ => simp [flatD] at f
theorem flats_of {G : Hp} : ∀ {vs : List V} {ds : List PyData}, DqAll K G vs ds → ds.all flatD = true → vs.all flatV = true
  | _, _, .nil, _ => rfl
  | _, _, .cons h r, f => by
    rw [List.all_cons, Bool.and_eq_true] at f ⊢
    exact ⟨flat_of h f.1, flats_of r f.2⟩
theorem inV_of {G : Hp} {w : V} {e : PyData} (h' : Dq K G w e) (f' : flatD e = true) : ∀ {vs : List V} {ds : List PyData}, DqAll K G vs ds → ds.all flatD = true → inV w vs = inD e ds
  | _, _, .nil, _ => rfl
  | _, _, .cons h r, f => by
    rw [List.all_cons, Bool.and_eq_true] at f
    have ih := inV_of h' f' r f.2
    unfold inV inD at *
    rw [List.any_cons, List.any_cons, ih, eqV_of h h' f.1 f']
/-- the data of a list or tuple, held still or not -/
def items (M : Mem) : SV → Option (List PyData)
  | .dat (.list ds) => some ds
  | .dat (.tuple ds) => some ds
  | .cel i => match M[i]? with
    | some (some xs) => dats xs
    | _ => none
  | _ => none
theorem items_sq {F : Hp} {π : List Addr} {G H : Hp} {M : Mem} {x : SV} {v : V} {ds : List PyData} (R : Rel K F π G H M) (s : Sv K π G x v) (h : items M x = some ds) : ∃ a xs, v = .ref a ∧ (SqL K H a xs ∨ SqT K H a xs) ∧ DqAll K G xs ds := by
  cases s with
  | dat hd =>
    cases hd <;> first | cases h | skip
    · rename_i a xs hs ha; exact ⟨a, xs, rfl, .inl (R.ex.seq hs), ha⟩
    · rename_i a xs hs ha; exact ⟨a, xs, rfl, .inr (same_sqT R.ex hs), ha⟩
  | @cel i a e =>
    unfold items at h
    dsimp only at h
    split at h
    · rename_i ys hy
      obtain ⟨a', vs, h1, h2, h3, h4, h5⟩ := R.mem i ys hy
      rw [e] at h1; cases h1
      exact ⟨a, vs, rfl, .inl (SqL.of h4), dats_all h h5⟩
    · cases h
def fIn (neg : Bool) : Mem → SV → SV → Option SV := fun M x y => match x with
  | .dat d => (items M y).bind fun ds => if (flatD d && ds.all flatD) = true then some (.dat (.bool (if neg then !inD d ds else inD d ds))) else none
  | _ => none
theorem os_in {neg : Bool} : OpS K (rIn K neg) (fIn neg) := by
  intro M x y z e F π G H v w R sx sy Q q
  cases sx with
  | cel _ => cases e
  | dat dx =>
    unfold fIn at e
    obtain ⟨ds, h1, e⟩ := Option.bind_eq_some_iff.mp e
    split at e
    · rename_i hh
      rw [Bool.and_eq_true] at hh
      cases e
      obtain ⟨a, xs, rfl, hs, ha⟩ := items_sq R sy h1
      refine ⟨a, xs, rfl, hs, flat_of dx hh.1, flats_of ha hh.2, ?_⟩
      rw [inV_of dx hh.1 ha hh.2]
      exact q G H _ .same (.dat (.bl _))
    · cases e

/-! an item -/
def fIx : Mem → SV → SV → Option SV := fun M x y => match x, y with
  | .dat (.list ds), .dat (.int i) => (atI ds i).bind fun d => some (.dat d)
  | .dat (.tuple ds), .dat (.int i) => (atI ds i).bind fun d => some (.dat d)
  | .cel c, .dat (.int i) => match M[c]? with
    | some (some xs) => atI xs i
    | _ => none
  | _, _ => none
theorem atI_of {α β : Type} {xs : List α} {ys : List β} {i : Int} {y : β} (hl : xs.length = ys.length) (h : atI ys i = some y) : ∃ j : Nat, ys[j]? = some y ∧ ∀ x, xs[j]? = some x → atI xs i = some x := by
  unfold atI at h ⊢
  obtain ⟨j, h1, h2⟩ := Option.bind_eq_some_iff.mp h
  refine ⟨j, h2, fun x hx => ?_⟩
  rw [hl, h1]
  exact hx
theorem os_ix : OpS K (rIx K) fIx := by
  intro M x y z e F π G H v w R sx sy Q q
  unfold fIx at e
  split at e
  · rename_i ds i
    obtain ⟨d, h1, e⟩ := Option.bind_eq_some_iff.mp e
    cases e
    cases sy with
    | dat dy =>
      cases dy
      cases sx with
      | dat dx =>
        cases dx with
        | @lst a xs _ hs ha =>
          obtain ⟨j, h2, h3⟩ := atI_of ha.length h1
          obtain ⟨u, hu, du⟩ := ha.get' h2
          exact .inl ⟨a, xs, i, u, rfl, rfl, R.ex.seq hs, h3 u hu, q G H u .same (.dat du)⟩
  · rename_i ds i
    obtain ⟨d, h1, e⟩ := Option.bind_eq_some_iff.mp e
    cases e
    cases sy with
    | dat dy =>
      cases dy
      cases sx with
      | dat dx =>
        cases dx with
        | @tup a xs _ hs ha =>
          obtain ⟨j, h2, h3⟩ := atI_of ha.length h1
          obtain ⟨u, hu, du⟩ := ha.get' h2
          exact .inr (.inl ⟨a, xs, i, u, rfl, rfl, same_sqT R.ex hs, h3 u hu, q G H u .same (.dat du)⟩)
  · rename_i c i
    split at e
    · rename_i ys hy
      cases sy with
      | dat dy =>
        cases dy
        cases sx with
        | @cel _ a ea =>
          obtain ⟨a', vs, h1, h2, h3, h4, h5⟩ := R.mem c ys hy
          rw [ea] at h1; cases h1
          obtain ⟨j, h6, h7⟩ := atI_of h5.length.symm e
          obtain ⟨u, hu, du⟩ := h5.get h6
          exact .inl ⟨a, vs, i, u, rfl, rfl, SqL.of h4, h7 u hu, q G H u .same du⟩
    · cases e
  · cases e

/-! slices -/
def cutD (ds : List PyData) (lo hi : Option Int) : List PyData := (ds.drop (HT.sIx ds.length 0 lo)).take (HT.sIx ds.length ds.length hi - HT.sIx ds.length 0 lo)
def rSlS (K : PySem.W.Frag) : V → Option Int → Option Int → Hp → VK → Prop := fun x l u H Q => rSlL K x l u H Q ∨ rSlA K x l u H Q
theorem sl_seq {X : Cx} : SlR X (rSlS X.K) := by
  intro pins s σ H x v vl vu lo hi sl Q I rx hs pl pu h
  rcases h with h | h
  · exact sl_list pins s σ H x v vl vu lo hi sl Q I rx hs pl pu h
  · exact sl_tupA pins s σ H x v vl vu lo hi sl Q I rx hs pl pu h
def fSl : Mem → SV → Option Int → Option Int → Option SV := fun _ x l u => match x with
  | .dat (.list ds) => some (.dat (.list (cutD ds l u)))
  | .dat (.tuple ds) => some (.dat (.tuple (cutD ds l u)))
  | _ => none
theorem cut_all {G : Hp} {xs : List V} {ds : List PyData} (h : DqAll K G xs ds) (l u : Option Int) : DqAll K G (cutV xs l u) (cutD ds l u) := by
  unfold cutV cutD
  rw [h.length]
  exact (h.drop _).take _
theorem ss_sl : SlS K (rSlS K) fSl := by
  intro M x l u z e F π G H v R sx Q q
  unfold fSl at e
  split at e
  · cases e
    cases sx with
    | dat dx =>
      cases dx with
      | @lst a xs _ hs ha =>
        refine .inl ⟨a, xs, rfl, R.ex.seq hs, fun p hp => ?_⟩
        have sg : Same G (upd G p (.lst (cutV xs l u))) := same_upd (none_of_same R.ex hp)
        exact q _ _ _ (.new hp) (.dat (.lst (SqL.of upd_same) ((cut_all ha l u).mono sg)))
  · rename_i ds
    cases e
    cases sx with
    | dat dx =>
      cases dx with
      | @tup a xs _ hs ha =>
        refine .inr ⟨a, xs, rfl, same_sqT R.ex hs, fun hw => ?_, fun _ p hp => ?_⟩
        · have ew : cutD ds l u = ds := by
            rw [ha.length] at hw
            unfold cutD
            rw [hw.1, hw.2]
            simp
          rw [ew] at q
          exact q G H _ .same (.dat (.tup hs ha))
        · have sg : Same G (upd G p (.tup (cutV xs l u))) := same_upd (none_of_same R.ex hp)
          exact q _ _ _ (.new hp) (.dat (.tup (SqT.of upd_same) ((cut_all ha l u).mono sg)))
  · cases e

/-! calls of built-ins -/
def one (f : Mem → SV → Option SV) : Mem → List SV → Option SV := fun M xs => match xs with
  | [x] => f M x
  | _ => none
theorem cs_one {r : V → Hp → VK → Prop} {f : Mem → SV → Option SV} (h : UnS K r f) : CaS K (fun xs H Q => ∃ x, xs = [x] ∧ r x H Q) (one f) := by
  intro M xs z e F π G H vs R s Q q
  unfold one at e
  split at e
  · cases s with
    | cons s1 s2 =>
      cases s2
      exact ⟨_, rfl, h M _ z e F π G H _ R s1 Q q⟩
  · cases e
/-- len -/
def rLen1 (K : PySem.W.Frag) : V → Hp → VK → Prop := fun x H Q => ∃ p ys, x = .ref p ∧ (SqL K H p ys ∨ SqT K H p ys) ∧ Q (.int ys.length) H
theorem call_len1 {X : Cx} : CallR X (.builtin "len") (fun xs H Q => ∃ x, xs = [x] ∧ rLen1 X.K x H Q) := by
  intro pins s σ H xs us Q I r h
  obtain ⟨x, rfl, p, ys, rfl, hs, q⟩ := h
  exact call_len_seq pins s σ H _ us Q I r ⟨p, ys, rfl, hs, q⟩
def fLen : Mem → SV → Option SV := fun M x => match x with
  | .dat (.list ds) => some (.dat (.int ds.length))
  | .dat (.tuple ds) => some (.dat (.int ds.length))
  | .cel i => match M[i]? with
    | some (some xs) => some (.dat (.int xs.length))
    | _ => none
  | _ => none
theorem us_len : UnS K (rLen1 K) fLen := by
  intro M x z e F π G H v R s Q q
  unfold fLen at e
  split at e
  · cases e
    cases s with
    | dat d =>
      cases d with
      | lst hs ha => exact ⟨_, _, rfl, .inl (R.ex.seq hs), by rw [ha.length]; exact q G H _ .same (.dat (.int _))⟩
  · cases e
    cases s with
    | dat d =>
      cases d with
      | tup hs ha => exact ⟨_, _, rfl, .inr (same_sqT R.ex hs), by rw [ha.length]; exact q G H _ .same (.dat (.int _))⟩
  · rename_i i
    split at e
    · rename_i xs hx
      cases e
      cases s with
      | @cel _ a ea =>
        obtain ⟨a', vs, h1, h2, h3, h4, h5⟩ := R.mem i xs hx
        rw [ea] at h1; cases h1
        exact ⟨a, vs, rfl, .inl (SqL.of h4), by rw [← h5.length]; exact q G H _ .same (.dat (.int _))⟩
    · cases e
  · cases e
def rAbs1 : V → Hp → VK → Prop := fun x H Q => ∃ i, x = .int i ∧ Q (.int (if i < 0 then -i else i)) H
theorem call_abs1 {X : Cx} : CallR X (.builtin "abs") (fun xs H Q => ∃ x, xs = [x] ∧ rAbs1 x H Q) := by
  intro pins s σ H xs us Q I r h
  obtain ⟨x, rfl, i, rfl, q⟩ := h
  exact call_abs pins s σ H _ us Q I r ⟨i, rfl, q⟩
def dAbs : PyData → Option PyData
  | .int i => some (.int (if i < 0 then -i else i))
  | _ => none
theorem us_abs : UnS K rAbs1 (lift1 dAbs) := us_lift (by
  intro x z e G H v sm dx Q q
  cases dx <;> first | cases e | skip
  exact ⟨_, rfl, q G H _ .same (.int _)⟩)
def rInt1 : V → Hp → VK → Prop := fun x H Q => (∃ i, x = .int i ∧ Q (.int i) H) ∨ ∃ k, x = .bl k ∧ Q (.int (if k then 1 else 0)) H
theorem call_int1' {X : Cx} : CallR X (.type "int") (fun xs H Q => ∃ x, xs = [x] ∧ rInt1 x H Q) := by
  intro pins s σ H xs us Q I r h
  obtain ⟨x, rfl, h⟩ := h
  refine call_int1 pins s σ H _ us Q I r ?_
  rcases h with ⟨i, rfl, q⟩ | ⟨i, rfl, q⟩
  · exact .inl ⟨i, rfl, q⟩
  · exact .inr ⟨i, rfl, q⟩
def dInt : PyData → Option PyData
  | .int i => some (.int i)
  | .bool b => some (.int (if b then 1 else 0))
  | _ => none
theorem us_int : UnS K rInt1 (lift1 dInt) := us_lift (by
  intro x z e G H v sm dx Q q
  cases dx <;> first | cases e | skip
  · exact .inr ⟨_, rfl, q G H _ .same (.int _)⟩
  · exact .inl ⟨_, rfl, q G H _ .same (.int _)⟩)
def rTup1 (K : PySem.W.Frag) : V → Hp → VK → Prop := fun x H Q => ∃ p ys, x = .ref p ∧ ((SqL K H p ys ∧ ∀ l, H l = none → Q (.ref l) (upd H l (.tup ys))) ∨ (SqT K H p ys ∧ Q (.ref p) H))
theorem call_tuple1 {X : Cx} : CallR X (.type "tuple") (fun xs H Q => ∃ x, xs = [x] ∧ rTup1 X.K x H Q) := by
  intro pins s σ H xs us Q I r h
  obtain ⟨x, rfl, p, ys, rfl, q⟩ := h
  exact call_tuple_of pins s σ H _ us Q I r ⟨p, ys, rfl, q⟩
def rLst1 (K : PySem.W.Frag) : V → Hp → VK → Prop := fun x H Q => ∃ p ys, x = .ref p ∧ (SqL K H p ys ∨ SqT K H p ys) ∧ ∀ l, H l = none → Q (.ref l) (upd H l (.lst ys))
theorem call_list1 {X : Cx} : CallR X (.type "list") (fun xs H Q => ∃ x, xs = [x] ∧ rLst1 X.K x H Q) := by
  intro pins s σ H xs us Q I r h
  obtain ⟨x, rfl, p, ys, rfl, q⟩ := h
  exact call_list_of pins s σ H _ us Q I r ⟨p, ys, rfl, q⟩
def fTuple : Mem → SV → Option SV := fun M x => (items M x).bind fun ds => some (.dat (.tuple ds))
def fList : Mem → SV → Option SV := fun M x => (items M x).bind fun ds => some (.dat (.list ds))
theorem us_tuple : UnS K (rTup1 K) fTuple := by
  intro M x z e F π G H v R s Q q
  unfold fTuple at e
  obtain ⟨ds, h1, e⟩ := Option.bind_eq_some_iff.mp e
  cases e
  cases s with
  | dat d =>
    cases d <;> first | cases h1 | skip
    · rename_i a xs hs ha
      refine ⟨a, xs, rfl, .inl ⟨R.ex.seq hs, fun p hp => ?_⟩⟩
      exact q _ _ _ (.new hp) (.dat (.tup (SqT.of upd_same) (ha.mono (same_upd (none_of_same R.ex hp)))))
    · rename_i a xs hs ha
      exact ⟨a, xs, rfl, .inr ⟨same_sqT R.ex hs, q G H _ .same (.dat (.tup hs ha))⟩⟩
  | @cel i a ea =>
    unfold items at h1
    dsimp only at h1
    split at h1
    · rename_i ys hy
      obtain ⟨a', vs, p1, p2, p3, p4, p5⟩ := R.mem i ys hy
      rw [ea] at p1; cases p1
      refine ⟨a, vs, rfl, .inl ⟨SqL.of p4, fun p hp => ?_⟩⟩
      exact q _ _ _ (.new hp) (.dat (.tup (SqT.of upd_same) ((dats_all h1 p5).mono (same_upd (none_of_same R.ex hp)))))
    · cases h1
theorem us_list : UnS K (rLst1 K) fList := by
  intro M x z e F π G H v R s Q q
  unfold fList at e
  obtain ⟨ds, h1, e⟩ := Option.bind_eq_some_iff.mp e
  cases e
  obtain ⟨a, xs, rfl, hs, ha⟩ := items_sq R s h1
  exact ⟨a, xs, rfl, hs, fun p hp => q _ _ _ (.new hp) (.dat (.lst (SqL.of upd_same) (ha.mono (same_upd (none_of_same R.ex hp)))))⟩

/-! isinstance -/
def tyD : PyData → String
  | .none => "NoneType"
  | .bool _ => "bool"
  | .int _ => "int"
  | .str _ => "str"
  | .list _ => "list"
  | .tuple _ => "tuple"
  | .dict _ => "dict"
def rIsi1 (K : PySem.W.Frag) (T : String) : V → Hp → VK → Prop := fun x H Q => ∃ (t : String) (b : Bool), TyX K H x (.type t) ∧ kitB t T = some b ∧ Q (.bl b) H
theorem call_isi1 {X : Cx} {T : String} : CallR X (.builtin "isinstance") (fun xs H Q => ∃ x, xs = [x, .ty T] ∧ rIsi1 X.K T x H Q) := by
  intro pins s σ H xs us Q I r h
  obtain ⟨x, rfl, t, b, ht, hb, q⟩ := h
  exact call_isi pins s σ H _ us Q I r ⟨x, .ty T, _, _, b, rfl, .ty T, ht, kit_ty hb, q⟩
theorem tyx_of {G H : Hp} (sm : Same G H) {v : V} {d : PyData} (h : Dq K G v d) : TyX K H v (.type (tyD d)) := by
  cases h with
  | non => exact .base .non
  | bl b => exact .base (.bl b)
  | int i => exact .base (.int i)
  | str x => exact .base (.str x)
  | lst hs ha =>
    rcases sm.seq hs with (h | ⟨o, h⟩) | ⟨o, its, n, h1, h2, _⟩
    · exact .base (.lst h)
    · exact .base (.frz h)
    · exact .kList h1 h2
  | tup hs ha =>
    rcases same_sqT sm hs with (h | ⟨o, h⟩) | ⟨o, its, n, h1, h2, _⟩
    · exact .base (.tup h)
    · exact .fTuple h
    · exact .kTuple h1 h2
  | dic hs ha =>
    rcases same_rd sm hs with h | ⟨o, h⟩
    · exact .base (.dK h)
    · exact .fDict h
def fIsi (T : String) : Mem → SV → Option SV := lift1 fun d => (kitB (tyD d) T).bind fun b => some (.bool b)
theorem us_isi {T : String} : UnS K (rIsi1 K T) (fIsi T) := us_lift (by
  intro x z e G H v sm dx Q q
  obtain ⟨b, h1, h2⟩ := Option.bind_eq_some_iff.mp e
  cases h2
  exact ⟨tyD x, b, tyx_of sm dx, h1, q G H _ .same (.bl b)⟩)
/-- the call of isinstance as an expression: its second argument a built-in type's name -/
def tIsi (K : PySem.W.Frag) (T : String) (ta : TE) : TE := fun σ H Q => ta σ H fun x H1 => rIsi1 K T x H1 Q
theorem pe_isi {X : Cx} {T : String} {y : Str} {a : Expr} {ta : TE} {p p2 pos : Pos} (hg : Gl X "isinstance") (hm : X.mg "isinstance" = none) (hg2 : Gl X y) (hm2 : X.mg y = none) (hv : bootBuiltins y = some (.type T)) (ha : PE X a ta)
    (he : starEach [a, .Name y p2] X.env = (false, eval a X.env) :: starEach [.Name y p2] X.env := by rfl) (hpl : (backTo pos (starEach [.Name y p2] X.env)).any (·.1) = false := by rfl) (hn : y ≠ "__name__" := by decide) (hdb : (y == ("__debug__" : Str)) = false := by decide) :
    PE X (.Call (.Name "isinstance" p) [a, .Name y p2] [] pos) (tIsi X.K T ta) := by
  have h := pe_callB (X := X) (x := "isinstance") (p := p) (pos := pos) (call_isi1 (T := T)) hg hm (by decide +kernel) (pa_cons ha (pa_cons (pe_bltn (v := .ty T) hg2 hm2 hv rfl hn hdb) pa_nil) he) (by decide) (by decide) he hpl
  refine ⟨fun pins s σ H Q I q => h.run pins s σ H Q I ?_⟩
  refine Eq.mp (congrArg (fun k => ta σ H k) (funext fun x => funext fun H1 => propext ⟨fun z => ?_, fun z => ?_⟩)) q
  · exact ⟨x, rfl, z⟩
  · obtain ⟨x', e, z⟩ := z
    cases e
    exact z
theorem ev_isi {T : String} {ta : TE} {a : SE} (ha : EvS K ta a) : EvS K (tIsi K T ta) (eUn (fIsi T) a) := ev_un ha us_isi

/-! all, sum, sorted -/
def boolsOf : List PyData → Option (List Bool)
  | [] => some []
  | .bool b :: r => (boolsOf r).bind fun bs => some (b :: bs)
  | _ :: _ => none
def intsOf : List PyData → Option (List Int)
  | [] => some []
  | .int b :: r => (intsOf r).bind fun bs => some (b :: bs)
  | _ :: _ => none
theorem bools_of {G : Hp} : ∀ {vs : List V} {ds : List PyData} {bs : List Bool}, DqAll K G vs ds → boolsOf ds = some bs → vs = bs.map V.bl
  | _, _, _, .nil, h => by cases h; rfl
  | _, _, _, .cons h r, e => by
    cases h <;> first | cases e | skip
    unfold boolsOf at e
    obtain ⟨bs, h1, e⟩ := Option.bind_eq_some_iff.mp e
    cases e
    rw [bools_of r h1]; rfl
theorem ints_of {G : Hp} : ∀ {vs : List V} {ds : List PyData} {bs : List Int}, DqAll K G vs ds → intsOf ds = some bs → vs = bs.map V.int
  | _, _, _, .nil, h => by cases h; rfl
  | _, _, _, .cons h r, e => by
    cases h <;> first | cases e | skip
    unfold intsOf at e
    obtain ⟨bs, h1, e⟩ := Option.bind_eq_some_iff.mp e
    cases e
    rw [ints_of r h1]; rfl
def rAll1 (K : PySem.W.Frag) : V → Hp → VK → Prop := fun x H Q => ∃ (a : Addr) (bs : List Bool), x = .ref a ∧ SqL K H a (bs.map V.bl) ∧ Q (.bl (bs.all id)) H
theorem call_all1 {X : Cx} (hc : X.calm = true) : CallR X (.builtin "all") (fun xs H Q => ∃ x, xs = [x] ∧ rAll1 X.K x H Q) := by
  intro pins s σ H xs us Q I r h
  obtain ⟨x, rfl, p, ys, rfl, q⟩ := h
  exact cr_all hc pins s σ H _ us Q I r ⟨p, ys, rfl, q⟩
def dAll : PyData → Option PyData
  | .list ds => (boolsOf ds).bind fun bs => some (.bool (bs.all id))
  | _ => none
theorem us_all : UnS K (rAll1 K) (lift1 dAll) := us_lift (by
  intro x z e G H v sm dx Q q
  cases dx <;> first | cases e | skip
  rename_i a xs ds hs ha
  obtain ⟨bs, h1, e⟩ := Option.bind_eq_some_iff.mp e
  cases e
  have e := bools_of ha h1
  subst e
  exact ⟨a, bs, rfl, sm.seq hs, q G H _ .same (.bl _)⟩)
def rSum1 (K : PySem.W.Frag) : V → Hp → VK → Prop := fun x H Q => ∃ (a : Addr) (ns : List Int), x = .ref a ∧ SqL K H a (ns.map V.int) ∧ Q (.int ns.sum) H
theorem call_sum1 {X : Cx} (hc : X.calm = true) : CallR X (.builtin "sum") (fun xs H Q => ∃ x, xs = [x] ∧ rSum1 X.K x H Q) := by
  intro pins s σ H xs us Q I r h
  obtain ⟨x, rfl, p, ys, rfl, q⟩ := h
  exact cr_sum hc pins s σ H _ us Q I r ⟨p, ys, rfl, q⟩
def dSum : PyData → Option PyData
  | .list ds => (intsOf ds).bind fun bs => some (.int bs.sum)
  | _ => none
theorem us_sum : UnS K (rSum1 K) (lift1 dSum) := us_lift (by
  intro x z e G H v sm dx Q q
  cases dx <;> first | cases e | skip
  rename_i a xs ds hs ha
  obtain ⟨bs, h1, e⟩ := Option.bind_eq_some_iff.mp e
  cases e
  have e := ints_of ha h1
  subst e
  exact ⟨a, bs, rfl, sm.seq hs, q G H _ .same (.int _)⟩)

/-! append, and a list that is held still from now on -/
def sApp (o : SE) (a : SE) : SS := fun ρ M => (o ρ M).bind fun x => (a ρ x.2).bind fun y => match x.1 with
  | .cel i => match x.2[i]?, y.2[i]?, y.1 with
    | some (some _), some (some xs), .dat d => if xs.length < 100000 then some (.nx ρ (y.2.set i (some (xs ++ [.dat d])))) else none
    | _, _, _ => none
  | _ => none
theorem et_app {to ta : TE} {o a : SE} (ho : EvS K to o) (ha : EvS K ta a) : EvT K (tDrop (tBM K "list" rAppend to (tCons ta tNil))) (sApp o a) := by
  intro ρ M c h F π G H σ R S D q
  unfold sApp at h
  obtain ⟨⟨x, M1⟩, h1, h⟩ := Option.bind_eq_some_iff.mp h
  obtain ⟨⟨y, M2⟩, h2, h⟩ := Option.bind_eq_some_iff.mp h
  cases x with
  | dat _ => cases h
  | cel i =>
    dsimp only at h
    split at h
    · rename_i xs0 xs d hx0 hx
      split at h
      · rename_i hz
        cases h
        refine ho ρ M _ M1 h1 F π G H σ R S _ fun π1 G1 H1 v1 g1 R1 s1 => ?_
        cases s1 with
        | @cel _ a ea =>
          refine ⟨?_, ?_⟩
          · obtain ⟨b, ws, p1, p2, p3, p4, p5⟩ := R1.mem i xs0 hx0
            rw [ea] at p1; cases p1
            exact .inl ⟨rfl, _, SqL.of p4⟩
          · refine ha ρ M1 _ M2 h2 F π1 G1 H1 σ R1 (S.gr g1) _ fun π2 G2 H2 v2 g2 R2 s2 => ?_
            obtain ⟨gs, more, rfl⟩ := g2
            obtain ⟨a', vs, p1, p2, p3, p4, p5⟩ := R2.mem i xs hx
            rw [ix_app ea] at p1; cases p1
            refine ⟨a, vs, v2, rfl, rfl, p4, szl (by rw [← p5.length]; exact hz), ?_⟩
            refine q _ G2 _ σ (g1.trans ⟨gs, more, rfl⟩) (R2.write hx (ix_app ea) (p5.append (.cons s2 .nil)) fun j hj => ?_) (S.gr (g1.trans ⟨gs, more, rfl⟩))
            rcases List.mem_append.mp hj with z | z
            · exact z
            · rcases List.mem_cons.mp z with z | z
              · cases z
              · cases z
      · cases h
    · cases h
def eFrz (a : SE) : SE := fun ρ M => (a ρ M).bind fun x => match x.1 with
  | .cel i => match x.2[i]? with
    | some (some xs) => (dats xs).bind fun ds => some (.dat (.list ds), x.2.set i none)
    | _ => none
  | _ => none
theorem ev_frz {ta : TE} {a : SE} (ha : EvS K ta a) : EvS K ta (eFrz a) := by
  intro ρ M z M' h F π G H σ R S Q q
  unfold eFrz at h
  obtain ⟨⟨x, M1⟩, h1, h⟩ := Option.bind_eq_some_iff.mp h
  refine ha ρ M x M1 h1 F π G H σ R S _ fun π1 G1 H1 v1 g1 R1 s1 => ?_
  cases s1 with
  | dat _ => cases h
  | @cel i a ea =>
    dsimp only at h
    split at h
    · rename_i xs hx
      obtain ⟨ds, hd, h⟩ := Option.bind_eq_some_iff.mp h
      cases h
      obtain ⟨a', vs, p1, p2, p3, p4, p5⟩ := R1.mem i xs hx
      rw [ea] at p1; cases p1
      obtain ⟨R2, sg⟩ := R1.freeze hx ea p4
      exact q π1 _ H1 _ (g1.trans (.of sg)) R2 (.dat (.lst (SqL.of upd_same) ((dats_all hd p5).mono sg)))
    · cases h
end
end Sm

namespace Sm
open PySem PySem.Spec PyProof.Rows L2

/-! ### repr of data -/
mutual
def wt : PyData → Nat
  | .none => 4
  | .bool _ => 5
  | .int _ => 1921
  | .str x => (reprText x).length
  | .list xs => 2 + wtAll xs
  | .tuple xs => 3 + wtAll xs
  | .dict kvs => 2 + wtKv kvs
def wtAll : List PyData → Nat
  | [] => 0
  | x :: xs => wt x + 2 + wtAll xs
def wtKv : List (PyData × PyData) → Nat
  | [] => 0
  | (k, v) :: r => wt k + wt v + 4 + wtKv r
end
mutual
def hasList : PyData → Bool
  | .none | .bool _ | .int _ | .str _ => false
  | .list _ => true
  | .tuple xs => hasListAll xs
  | .dict kvs => hasListKv kvs
def hasListAll : List PyData → Bool
  | [] => false
  | x :: xs => hasList x || hasListAll xs
def hasListKv : List (PyData × PyData) → Bool
  | [] => false
  | (_, v) :: r => hasList v || hasListKv r
end
theorem textFrom_le : ∀ (ts : List Str) (k : Nat) (acc : Str), (textFrom k acc ts).length ≤ acc.length + piled ts
  | [], k, acc => by rw [piled_nil]; exact Nat.le_refl _
  | t :: ts, k, acc => by
    have ih := textFrom_le ts (k + 1) (acc ++ (if k > 0 then ", " else "" : String) ++ t)
    rw [strLen_append, strLen_append] at ih
    have e : ((if k > 0 then ", " else "" : String) : Str).length ≤ 2 := by
      split
      · exact Nat.le_refl _
      · exact Nat.zero_le _
    rw [piled_cons]
    show (textFrom (k + 1) _ ts).length ≤ _
    omega
theorem join_le (ts : List Str) : (Str.join ", " ts).length ≤ piled ts := by
  cases ts with
  | nil => exact Nat.zero_le _
  | cons t r =>
    have := join_length_add (t :: r) (by simp)
    omega
mutual
theorem shown_le : ∀ d : PyData, d.showable = true → d.shown.length ≤ wt d
  | .none, _ => by simp only [PyData.shown, wt]; decide
  | .bool b, _ => by cases b <;> (simp only [PyData.shown, wt]; decide)
  | .int i, h => by
    simp only [PyData.shown, wt]
    exact int_text_len_1921 (by simpa [PyData.showable] using h)
  | .str x, _ => by simp only [PyData.shown, wt]; exact Nat.le_refl _
  | .list xs, h => by
    have ih := shownAll_le xs (by simpa [PyData.showable] using h)
    simp only [PyData.shown, wt]
    unfold listText
    rw [strLen_append]
    have h1 := textFrom_le (PyData.shownAll xs) 0 "["
    have h2 : (("[" : String) : Str).length = 1 := rfl
    have h3 : (("]" : String) : Str).length = 1 := rfl
    omega
  | .tuple xs, h => by
    have ih := shownAll_le xs (by simpa [PyData.showable] using h)
    simp only [PyData.shown, wt]
    unfold tupleText
    rw [strLen_append, strLen_append]
    have h1 := join_le (PyData.shownAll xs)
    have h2 : (("(" : String) : Str).length = 1 := rfl
    have h3 : ((if (PyData.shownAll xs).length == 1 then ",)" else ")" : String) : Str).length ≤ 2 := by
      split
      · exact Nat.le_refl _
      · exact (by decide : (1 : Nat) ≤ 2)
    omega
  | .dict kvs, h => by
    have ih := shownKv_le kvs (by simpa [PyData.showable] using h)
    simp only [PyData.shown, wt]
    unfold dictText
    rw [strLen_append, strLen_append]
    have h1 := join_le (PyData.shownKv kvs)
    have h2 : (("{" : String) : Str).length = 1 := rfl
    have h3 : (("}" : String) : Str).length = 1 := rfl
    omega
theorem shownAll_le : ∀ ds : List PyData, PyData.showableAll ds = true → piled (PyData.shownAll ds) ≤ wtAll ds
  | [], _ => by simp [PyData.shownAll, wtAll, piled]
  | d :: ds, h => by
    have h' : d.showable = true ∧ PyData.showableAll ds = true := by simpa [PyData.showableAll] using h
    have h1 := shown_le d h'.1
    have h2 := shownAll_le ds h'.2
    simp only [PyData.shownAll, wtAll, piled_cons]
    omega
theorem shownKv_le : ∀ ds : List (PyData × PyData), PyData.showableKv ds = true → piled (PyData.shownKv ds) ≤ wtKv ds
  | [], _ => by simp [PyData.shownKv, wtKv, piled]
  | (k, v) :: ds, h => by
    have h' : (k.showable = true ∧ v.showable = true) ∧ PyData.showableKv ds = true := by simpa [PyData.showableKv] using h
    have h1 := shown_le k h'.1.1
    have h2 := shown_le v h'.1.2
    have h3 := shownKv_le ds h'.2
    simp only [PyData.shownKv, wtKv, piled_cons]
    rw [strLen_append, strLen_append]
    have h4 : ((": " : String) : Str).length = 2 := rfl
    omega
end
section
variable {X : Cx} {pins : List (Addr × Obj)} {σ : L2.St} {H : Hp} {s : Shared}
mutual
theorem Dq.reads (I : Inv X pins σ H s) : ∀ (d : PyData) (v : V) (u : Value), Dq X.K H v d → RelV v u → ∃ as, Reads s.heap u d as ∧ (hasList d = false → sysModules ∉ as)
  | .none, _, _, h, r => by
    cases h; cases r
    exact ⟨_, Reads.none, fun _ z => nomatch z⟩
  | .bool b, _, _, h, r => by
    cases h; cases r
    exact ⟨_, Reads.bool b, fun _ z => nomatch z⟩
  | .int i, _, _, h, r => by
    cases h
    obtain ⟨t, rfl⟩ := r
    exact ⟨_, Reads.int i t, fun _ z => nomatch z⟩
  | .str x, _, _, h, r => by
    cases h
    obtain ⟨t, rfl⟩ := r
    exact ⟨_, Reads.str x t, fun _ z => nomatch z⟩
  | .list ds, _, _, h, r => by
    cases h with
    | lst hs ha =>
      cases r
      obtain ⟨its, rv, ⟨o, n, ho, hc, _, hd⟩, _⟩ := I.list hs
      obtain ⟨as, hr, _⟩ := Dq.readsAll I ds _ its ha rv
      exact ⟨_, Reads.list ho hc hd hr, fun z => by simp [hasList] at z⟩
  | .tuple ds, _, _, h, r => by
    cases h with
    | tup hs ha =>
      cases r
      obtain ⟨its, rv, ⟨o, ho, hc, n, hd⟩, _⟩ := I.tuple hs
      obtain ⟨as, hr, hn⟩ := Dq.readsAll I ds _ its ha rv
      exact ⟨_, Reads.tuple ho hc hd hr, fun z => hn (by simpa [hasList] using z)⟩
  | .dict ds, _, _, h, r => by
    cases h with
    | @dic a kvs _ hs ha =>
      cases r
      obtain ⟨_, hsm, vs, hkv, o, es, ep, e1, e2, e3, _, e4, _⟩ := hs.ok I.hok
      obtain ⟨as, bs, k1, k2, hn1, hn2⟩ := Dq.readsKv I ds kvs vs ha hkv es.toList e4
      refine ⟨_, Reads.dict e1 e2.1 e3 k1 k2, fun z hm => ?_⟩
      rcases List.mem_append.mp hm with hm | hm
      · rcases List.mem_cons.mp hm with q | q
        · rw [← q] at hsm
          simp at hsm
        · exact hn1 q
      · exact hn2 (by simpa [hasList] using z) hm
theorem Dq.readsAll (I : Inv X pins σ H s) : ∀ (ds : List PyData) (vs : List V) (us : List Value), DqAll X.K H vs ds → Vals vs us → ∃ as, ReadsAll s.heap us ds as ∧ (hasListAll ds = false → sysModules ∉ as)
  | [], _, _, h, r => by
    cases h; cases r
    exact ⟨_, ReadsAll.nil, fun _ z => nomatch z⟩
  | d :: ds, _, _, h, r => by
    cases h with
    | cons h1 h2 =>
      cases r with
      | cons r1 r2 =>
        obtain ⟨as, q1, n1⟩ := Dq.reads I d _ _ h1 r1
        obtain ⟨bs, q2, n2⟩ := Dq.readsAll I ds _ _ h2 r2
        refine ⟨_, ReadsAll.cons q1 q2, fun z hm => ?_⟩
        have z' : hasList d = false ∧ hasListAll ds = false := by simpa [hasListAll] using z
        rcases List.mem_append.mp hm with hm | hm
        · exact n1 z'.1 hm
        · exact n2 z'.2 hm
theorem Dq.readsKv (I : Inv X pins σ H s) : ∀ (ds : List (PyData × PyData)) (kvs : List (Key × V)) (vs : List (Key × Value)), DqKv X.K H kvs ds → KV kvs vs → ∀ es : List DictEntry, Pairs (mixKind X.prog X.w) es vs →
    ∃ as bs, ReadsAll s.heap (es.map (·.key)) (ds.map (·.1)) as ∧ ReadsAll s.heap (es.map (·.val)) (ds.map (·.2)) bs ∧ sysModules ∉ as ∧ (hasListKv ds = false → sysModules ∉ bs)
  | [], _, _, h, r, es, e => by
    cases h; cases r; cases e
    exact ⟨_, _, ReadsAll.nil, ReadsAll.nil, (fun z => nomatch z), fun _ z => nomatch z⟩
  | _ :: ds, _, _, h, r, es, e => by
    cases h with
    | @cons k v vs' d _ h1 h2 =>
      cases r with
      | cons r1 r2 =>
        cases e with
        | @cons en kv es' kvs' hk hv ht =>
          obtain ⟨as, bs, k1, k2, n1, n2⟩ := Dq.readsKv I ds _ _ h2 r2 es' ht
          obtain ⟨e1, e2⟩ := r1
          dsimp only at e1 e2
          obtain ⟨cs, q1, m1⟩ := Dq.reads I _ _ en.val h1 (by rw [hv]; exact e2)
          have hk' : keyIs k en.key = true := by rw [e1]; exact hk
          have key : ∃ t, (∃ i, (kD k = PyData.int i ∧ en.key = Value.int i t)) ∨ ∃ x, (kD k = PyData.str x ∧ en.key = Value.str x t) := by
            rcases keyIs_shape hk' with ⟨i, t, q, w⟩ | ⟨x, t, q, w⟩
            · exact ⟨t, .inl ⟨i, by rw [q]; rfl, w⟩⟩
            · exact ⟨t, .inr ⟨x, by rw [q]; rfl, w⟩⟩
          have rk : Reads s.heap en.key (kD k) [] := by
            obtain ⟨t, ⟨i, q, w⟩ | ⟨x, q, w⟩⟩ := key
            · rw [q, w]; exact Reads.int i t
            · rw [q, w]; exact Reads.str x t
          refine ⟨[] ++ as, cs ++ bs, ReadsAll.cons rk k1, ReadsAll.cons q1 k2, n1, fun z hm => ?_⟩
          have z' : hasList d = false ∧ hasListKv ds = false := by simpa [hasListKv] using z
          rcases List.mem_append.mp hm with hm | hm
          · exact m1 z'.1 hm
          · exact n2 z'.2 hm
end
/-- repr(x) -/
def rRepr1 (K : PySem.W.Frag) : V → Hp → VK → Prop := fun x H Q => ∃ d : PyData, Dq K H x d ∧ d.showable = true ∧ d.depth ≤ 64 ∧ wt d ≤ 1000000 ∧ (d.hasDict = true → hasList d = false) ∧ Q (.str d.shown) H
theorem call_repr1 (hg : X.A.guards = some []) {k : Nat} (hr : Room k X.A) : CallR X (.builtin "repr") (fun xs H Q => ∃ x, xs = [x] ∧ rRepr1 X.K x H Q) := by
  intro pins s σ H xs us Q I r h
  obtain ⟨x, rfl, d, hd, hs, hp, hw, hl, q⟩ := h
  obtain ⟨u, rfl, ru⟩ := vals1 r
  obtain ⟨as, hr', hn⟩ := Dq.reads I d x u hd ru
  have hz : d.shown.length ≤ sizeLine := Nat.le_trans (shown_le d hs) (Nat.le_trans hw (by decide))
  have hu := hr.un
  have ref : ∀ a, u = .ref a → wpAny (model X.prog X.w) X.A (call (.builtin "repr") [u]) (EP X pins σ Q) X.xe s := by
    intro a e
    subst e
    refine repr_of_reads' hr' hs (fun z => hn (hl z)) hg (by omega) (fun b o e => e) (fun h' t tk hk => ?_) hz
    exact ⟨.str d.shown, H, I.kept hk, ⟨_, rfl⟩, q⟩
  cases hd with
  | non =>
    cases ru
    refine PySem.P.repr_of_none ⟨.str "None", H, I.tok _, ⟨_, rfl⟩, ?_⟩
    simpa only [PyData.shown] using q
  | bl b =>
    cases ru
    refine PySem.P.repr_of_bool ⟨.str (if b = true then (Str.ofString "True") else (Str.ofString "False")), H, I.tok _, ⟨_, rfl⟩, ?_⟩
    simpa only [PyData.shown] using q
  | int i =>
    obtain ⟨t, rfl⟩ := ru
    refine PySem.P.repr_of_int (by simpa [PyData.showable] using hs) ⟨.str (toString i), H, I.tok _, ⟨_, rfl⟩, ?_⟩
    simpa only [PyData.shown] using q
  | str x =>
    obtain ⟨t, rfl⟩ := ru
    simp only [PyData.shown] at q hz
    exact PySem.P.repr_of_str ⟨.str (reprText x), H, I.tok _, ⟨_, rfl⟩, q⟩ hz
  | lst _ _ => exact ref _ ru
  | tup _ _ => exact ref _ ru
  | dic _ _ => exact ref _ ru
end
def dRepr (d : PyData) : Option PyData := if (d.showable && decide (d.depth ≤ 64) && decide (wt d ≤ 1000000) && (!d.hasDict || !hasList d)) = true then some (.str d.shown) else none
section
variable {K : PySem.W.Frag}
theorem us_repr : UnS K (rRepr1 K) (lift1 dRepr) := us_lift (by
  intro x z e G H v sm dx Q q
  unfold dRepr at e
  split at e
  · rename_i hh
    cases e
    simp only [Bool.and_eq_true, decide_eq_true_eq, Bool.or_eq_true, Bool.not_eq_true'] at hh
    obtain ⟨⟨⟨h1, h2⟩, h3⟩, h4⟩ := hh
    refine ⟨x, dx.mono sm, h1, h2, h3, fun z => ?_, q G H _ .same (.str _)⟩
    rcases h4 with h | h
    · rw [h] at z; cases z
    · exact h
  · cases e)

/-! ### sorted, list(range(..)), [.. for .. for ..] -/
def insI (x : Int) : List Int → List Int
  | [] => [x]
  | y :: r => if x ≤ y then x :: y :: r else y :: insI x r
def srtI : List Int → List Int
  | [] => []
  | x :: r => insI x (srtI r)
theorem insI_perm (x : Int) : ∀ l : List Int, (insI x l).Perm (x :: l)
  | [] => List.Perm.refl _
  | y :: r => by
    unfold insI
    split
    · exact List.Perm.refl _
    · exact ((insI_perm x r).cons y).trans (List.Perm.swap x y r)
theorem srtI_perm : ∀ l : List Int, (srtI l).Perm l
  | [] => List.Perm.refl _
  | x :: r => (insI_perm x (srtI r)).trans ((srtI_perm r).cons x)
theorem insI_sorted (x : Int) : ∀ l : List Int, l.Pairwise (· ≤ ·) → (insI x l).Pairwise (· ≤ ·)
  | [], _ => List.pairwise_singleton _ _
  | y :: r, h => by
    obtain ⟨h1, h2⟩ := List.pairwise_cons.mp h
    unfold insI
    split
    · rename_i hx
      refine List.pairwise_cons.mpr ⟨fun z hz => ?_, h⟩
      rcases List.mem_cons.mp hz with e | e
      · rw [e]; exact hx
      · exact Int.le_trans hx (h1 z e)
    · rename_i hx
      refine List.pairwise_cons.mpr ⟨fun z hz => ?_, insI_sorted x r h2⟩
      rcases List.mem_cons.mp ((insI_perm x r).mem_iff.mp hz) with e | e
      · rw [e]; omega
      · exact h1 z e
theorem srtI_sorted : ∀ l : List Int, (srtI l).Pairwise (· ≤ ·)
  | [] => List.Pairwise.nil
  | x :: r => insI_sorted x _ (srtI_sorted r)
theorem sorted_eq : ∀ {a b : List Int}, a.Perm b → a.Pairwise (· ≤ ·) → b.Pairwise (· ≤ ·) → a = b
  | [], _, p, _, _ => (List.Perm.nil_eq p)
  | x :: a, [], p, _, _ => by have := p.length_eq; simp at this
  | x :: a, y :: b, p, ha, hb => by
    obtain ⟨a1, a2⟩ := List.pairwise_cons.mp ha
    obtain ⟨b1, b2⟩ := List.pairwise_cons.mp hb
    have hxy : x = y := by
      have h1 : x ∈ y :: b := p.mem_iff.mp List.mem_cons_self
      have h2 : y ∈ x :: a := p.mem_iff.mpr List.mem_cons_self
      rcases List.mem_cons.mp h1 with e | e
      · exact e
      · rcases List.mem_cons.mp h2 with f | f
        · exact f.symm
        · have := a1 y f; have := b1 x e; omega
    subst hxy
    rw [sorted_eq (List.Perm.cons_inv p) a2 b2]
def rSrt1 (K : PySem.W.Frag) : V → Hp → VK → Prop := fun x H Q => ∃ (a : Addr) (ns : List Int), x = .ref a ∧ SqL K H a (ns.map V.int) ∧ ∀ p : Addr, H p = none → Q (.ref p) (upd H p (.lst ((srtI ns).map V.int)))
theorem call_sorted1 {X : Cx} : CallR X (.builtin "sorted") (fun xs H Q => ∃ x, xs = [x] ∧ rSrt1 X.K x H Q) := by
  intro pins s σ H xs us Q I r h
  obtain ⟨x, rfl, p, ns, rfl, hs, q⟩ := h
  refine cr_sortedI pins s σ H _ us Q I r ⟨p, ns, rfl, hs, fun ns' a h1 h2 ha => ?_⟩
  have e : ns' = srtI ns := sorted_eq (h1.trans (srtI_perm ns).symm) h2 (srtI_sorted ns)
  subst e
  exact q a ha
def fSorted : Mem → SV → Option SV := fun M x => match x with
  | .dat (.tuple _) => none
  | x => (items M x).bind fun ds => (intsOf ds).bind fun ns => some (.dat (.list ((srtI ns).map PyData.int)))
theorem ints_all {G : Hp} : ∀ (ns : List Int), DqAll K G (ns.map V.int) (ns.map PyData.int)
  | [] => .nil
  | n :: r => .cons (.int n) (ints_all r)
theorem us_sorted : UnS K (rSrt1 K) fSorted := by
  intro M x z e F π G H v R s Q q
  unfold fSorted at e
  split at e
  · cases e
  · rename_i hne
    obtain ⟨ds, h1, e⟩ := Option.bind_eq_some_iff.mp e
    obtain ⟨ns, h2, e⟩ := Option.bind_eq_some_iff.mp e
    cases e
    have fin : ∀ a xs, v = .ref a → SqL K H a xs → DqAll K G xs ds → rSrt1 K v H Q := by
      intro a xs e hs ha
      have e2 := ints_of ha h2
      subst e2
      exact ⟨a, ns, e, hs, fun p hp => q _ _ _ (.new hp) (.dat (.lst (SqL.of upd_same) (ints_all _)))⟩
    cases s with
    | dat d =>
      cases d <;> first | cases h1 | skip
      · rename_i a xs hs ha
        exact fin a xs rfl (R.ex.seq hs) ha
      · exact absurd rfl (hne _)
    | @cel i a ea =>
      unfold items at h1
      dsimp only at h1
      split at h1
      · rename_i ys hy
        obtain ⟨a', vs, p1, p2, p3, p4, p5⟩ := R.mem i ys hy
        rw [ea] at p1; cases p1
        exact fin a vs rfl (SqL.of p4) (dats_all h1 p5)
      · cases h1
def eLr2 (a b : SE) : SE := fun ρ M => (a ρ M).bind fun x => (b ρ x.2).bind fun y => match x.1, y.1 with
  | .dat (.int i), .dat (.int j) => if (-(2 ^ 20) ≤ i ∧ i < 2 ^ 20) ∧ -(2 ^ 20) ≤ j ∧ j < 2 ^ 20 then some (.dat (.list (rangeD i j)), y.2) else none
  | _, _ => none
theorem rg_all {G : Hp} (i j : Int) : DqAll K G (rgV i j) (rangeD i j) := by
  unfold rgV rangeD
  generalize List.range (j - i).toNat = l
  induction l with
  | nil => exact .nil
  | cons a l ih => exact .cons (.int _) ih
theorem ev_lr2 {ta tb : TE} {a b : SE} (ha : EvS K ta a) (hb : EvS K tb b) : EvS K (tLstRg (tRg2 ta tb)) (eLr2 a b) := by
  intro ρ M z M' h F π G H σ R S Q q
  unfold eLr2 at h
  obtain ⟨⟨x, M1⟩, h1, h⟩ := Option.bind_eq_some_iff.mp h
  obtain ⟨⟨y, M2⟩, h2, h⟩ := Option.bind_eq_some_iff.mp h
  refine ha ρ M x M1 h1 F π G H σ R S _ fun π1 G1 H1 v1 g1 R1 s1 => ?_
  refine hb ρ M1 y M2 h2 F π1 G1 H1 σ R1 (S.gr g1) _ fun π2 G2 H2 v2 g2 R2 s2 => ?_
  cases s1 with
  | cel _ => cases h
  | dat d1 =>
    cases d1 with
    | int i =>
      cases s2 with
      | cel _ => cases h
      | dat d2 =>
        cases d2 with
        | int j =>
          dsimp only at h
          split at h
          · rename_i hh
            cases h
            refine ⟨i, j, rfl, rfl, ⟨by omega, by omega, by omega, by omega, by omega⟩, fun p hp => ?_⟩
            have al : Al G2 H2 (upd G2 p (.lst (rgV i j))) (upd H2 p (.lst (rgV i j))) := .new hp
            exact q π2 _ _ _ ((g1.trans g2).trans (.of (R2.alSame al))) (R2.al al) (.dat (.lst (SqL.of upd_same) (rg_all i j)))
          · cases h
        | _ => cases h
    | _ => cases h
/-- [el for .. in it if tt for .. in it1 if tt1] -/
def lcL2 (g : SG) (tt : SB) (it1 : SI) (g1 : SG) (tt1 : SB) (el : SE) (vs1 : List Nat) (ρ : Rho) : List PyData → Mem → Option (List PyData × Mem)
  | [], M => some ([], M)
  | d :: ds, M => (g (.dat d) ρ M).bind fun y => (tt y.1 y.2).bind fun b => if b.1 = true then (it1 y.1 b.2).bind fun x => if x.1.length ≤ 1000 then (lcL g1 tt1 el (wipeR y.1 vs1) x.1 x.2).bind fun r => (lcL2 g tt it1 g1 tt1 el vs1 ρ ds r.2).bind fun z => some (r.1 ++ z.1, z.2) else none
    else lcL2 g tt it1 g1 tt1 el vs1 ρ ds b.2
def eLc2 (it : SI) (g : SG) (tt : SB) (it1 : SI) (g1 : SG) (tt1 : SB) (el : SE) (vs vs1 : List Nat) : SE := fun ρ M => (it ρ M).bind fun x => if x.1.length ≤ 1000 then (lcL2 g tt it1 g1 tt1 el vs1 (wipeR ρ vs) x.1 x.2).bind fun z => some (.dat (.list z.1), z.2) else none
theorem ev_lc2 {ta : TE} {a : SE} {wi wi1 : TI} {g g1 : TG} {tt tt1 : TT} {it it1 : SI} {sg sg1 : SG} {b b1 : SB} {vs vs1 : List Nat} (hi : EvI K wi it) (hg : EvG K g sg) (hw : GW g vs) (ht : EvB K tt b)
    (hi1 : EvI K wi1 it1) (hg1 : EvG K g1 sg1) (hw1 : GW g1 vs1) (ht1 : EvB K tt1 b1) (he : EvS K ta a) : EvS K (tLc2 wi g tt wi1 g1 tt1 ta vs vs1) (eLc2 it sg b it1 sg1 b1 a vs vs1) := by
  intro ρ M z M' h F π G H σ R S Q q
  unfold eLc2 at h
  obtain ⟨⟨ds, M1⟩, e, h⟩ := Option.bind_eq_some_iff.mp h
  split at h
  · rename_i hz
    dsimp only at hz
    obtain ⟨⟨out, M2⟩, e2, h⟩ := Option.bind_eq_some_iff.mp h
    cases h
    refine hi ρ M ds M1 e F π G H σ R S _ fun π1 G1 H1 J g1' R1 ok => ?_
    intro D hD
    have S1 := (S.gr g1').wiped vs
    have hF := R1.frNone hD
    let W : Nat → Hp → Prop := fun i H => ∃ M π' G' acc vs' rest, i ≤ ds.length ∧ vs'.length ≤ 1000 * i ∧ Gr π1 π' G1 G' ∧ Rel K (upd F D (.lst vs')) π' G' H M ∧ DqAll K G' vs' acc ∧ lcL2 sg b it1 sg1 b1 a vs1 (wipeR ρ vs) (ds.drop i) M = some (rest, M2) ∧ out = acc ++ rest
    refine ⟨fun i m H => m = ds.length - i ∧ W i H, ⟨_, rfl, M1, π1, G1, [], [], out, Nat.zero_le _, Nat.zero_le _, Gr.refl, R1.frame hD, .nil, e2, rfl⟩, ?_⟩
    rintro i m H' ⟨rfl, M3, π', G', acc, vs', rest, hle, hvl, g', R', hacc, hl, ho⟩
    by_cases hlt : i < ds.length
    · refine .inr ⟨ok.go i H' (fun b o x => R'.ex b o (g'.s b o x)) hlt, W (i + 1), fun H'' w => ⟨ds.length - (i + 1), by omega, rfl, w⟩, fun x H'' y => ?_⟩
      obtain ⟨d, G3, e3, al, hd⟩ := ok.yld i H' x H'' G' g'.s R'.ex y hlt
      have ed : ds.drop i = d :: ds.drop (i + 1) := by
        rw [List.drop_eq_getElem_cons hlt]
        rw [List.getElem?_eq_getElem hlt] at e3
        cases e3; rfl
      rw [ed] at hl
      unfold lcL2 at hl
      obtain ⟨⟨ρ2, M4⟩, e4, hl⟩ := Option.bind_eq_some_iff.mp hl
      obtain ⟨⟨bv, M5⟩, e5, hl⟩ := Option.bind_eq_some_iff.mp hl
      have ga := Gr.of (π := π') (R'.alSame al)
      have hwi : wipe (wipe σ vs) vs = wipe σ vs := wipe_wipe σ vs vs (fun v hv => hv)
      have key : ∀ Q' : L2.St → Hp → Prop, (∀ π4 G4 H4 σ4, Gr π' π4 G3 G4 → Rel K (upd F D (.lst vs')) π4 G4 H4 M4 → Slots K π4 G4 ρ2 σ4 → Q' σ4 H4) → g x (wipe σ vs) H'' fun σ2 H2 => wipe σ2 vs = wipe σ vs ∧ Q' σ2 H2 := by
        intro Q' hQ
        have := hw x (wipe σ vs) H'' Q' (hg (.dat d) (wipeR ρ vs) M3 ρ2 M4 e4 (upd F D (.lst vs')) π' G3 H'' x (wipe σ vs) (R'.al al) (S1.gr (g'.trans ga)) (.dat hd) Q' hQ)
        rw [hwi] at this
        exact this
      refine key _ fun π4 G4 H4 σ4 g4 R4 S4 => ?_
      refine ht ρ2 M4 bv M5 e5 _ π4 G4 H4 σ4 R4 S4 _ fun π5 G5 H5 g5 R5 => ?_
      have gg := ((g'.trans ga).trans g4).trans g5
      have gh := (ga.trans g4).trans g5
      cases bv with
      | true =>
        rw [if_pos rfl]
        dsimp only at hl
        rw [if_pos rfl] at hl
        obtain ⟨⟨es, M6⟩, e6, hl⟩ := Option.bind_eq_some_iff.mp hl
        split at hl
        · rename_i hz1
          dsimp only at hz1
          obtain ⟨⟨ys, M7⟩, e7, hl⟩ := Option.bind_eq_some_iff.mp hl
          obtain ⟨⟨zs, M8⟩, e8, hl⟩ := Option.bind_eq_some_iff.mp hl
          cases hl
          refine hi1 ρ2 M5 es M6 e6 _ π5 G5 H5 σ4 R5 (S4.gr g5) _ fun π6 G6 H6 J1 g6 R6 ok1 => ?_
          have S6 := (S4.gr (g5.trans g6)).wiped vs1
          let W1 : Nat → Hp → Prop := fun j H => ∃ M π' G' acc1 vs2 rest1, j ≤ es.length ∧ vs2.length ≤ j ∧ Gr π6 π' G6 G' ∧ Rel K (upd F D (.lst (vs' ++ vs2))) π' G' H M ∧ DqAll K G' vs2 acc1 ∧ lcL sg1 b1 a (wipeR ρ2 vs1) (es.drop j) M = some (rest1, M7) ∧ ys = acc1 ++ rest1
          refine ⟨fun j m H => m = es.length - j ∧ W1 j H, ⟨_, rfl, M6, π6, G6, [], [], ys, Nat.zero_le _, Nat.le_refl _, Gr.refl, by rw [List.append_nil]; exact R6, .nil, e7, rfl⟩, ?_⟩
          rintro j m1 H7 ⟨rfl, M9, π7, G7, acc1, vs2, rest1, hle1, hvl1, g7, R7, hacc1, hl1, ho1⟩
          by_cases hlt1 : j < es.length
          · refine .inr ⟨ok1.go j H7 (fun b o x => R7.ex b o (g7.s b o x)) hlt1, W1 (j + 1), fun H'' w => ⟨es.length - (j + 1), by omega, rfl, w⟩, fun x1 H8 y1 => ?_⟩
            obtain ⟨d1, G8, e9, al1, hd1⟩ := ok1.yld j H7 x1 H8 G7 g7.s R7.ex y1 hlt1
            have ed1 : es.drop j = d1 :: es.drop (j + 1) := by
              rw [List.drop_eq_getElem_cons hlt1]
              rw [List.getElem?_eq_getElem hlt1] at e9
              cases e9; rfl
            rw [ed1] at hl1
            unfold lcL at hl1
            obtain ⟨⟨ρ3, M10⟩, e10, hl1⟩ := Option.bind_eq_some_iff.mp hl1
            obtain ⟨⟨bw, M11⟩, e11, hl1⟩ := Option.bind_eq_some_iff.mp hl1
            have ga1 := Gr.of (π := π7) (R7.alSame al1)
            have hwi1 : wipe (wipe σ4 vs1) vs1 = wipe σ4 vs1 := wipe_wipe σ4 vs1 vs1 (fun v hv => hv)
            have key1 : ∀ Q' : L2.St → Hp → Prop, (∀ π8 G9 H9 σ9, Gr π7 π8 G8 G9 → Rel K (upd F D (.lst (vs' ++ vs2))) π8 G9 H9 M10 → Slots K π8 G9 ρ3 σ9 → Q' σ9 H9) → g1 x1 (wipe σ4 vs1) H8 fun σ2 H2 => wipe σ2 vs1 = wipe σ4 vs1 ∧ Q' σ2 H2 := by
              intro Q' hQ
              have := hw1 x1 (wipe σ4 vs1) H8 Q' (hg1 (.dat d1) (wipeR ρ2 vs1) M9 ρ3 M10 e10 (upd F D (.lst (vs' ++ vs2))) π7 G8 H8 x1 (wipe σ4 vs1) (R7.al al1) (S6.gr (g7.trans ga1)) (.dat hd1) Q' hQ)
              rw [hwi1] at this
              exact this
            refine key1 _ fun π8 G9 H9 σ9 g9 R9 S9 => ?_
            refine ht1 ρ3 M10 bw M11 e11 _ π8 G9 H9 σ9 R9 S9 _ fun π10 G10 H10 g10 R10 => ?_
            have gk := ((g7.trans ga1).trans g9).trans g10
            have gj := (ga1.trans g9).trans g10
            cases bw with
            | true =>
              rw [if_pos rfl]
              dsimp only at hl1
              rw [if_pos rfl] at hl1
              obtain ⟨⟨r, M12⟩, e12, hl1⟩ := Option.bind_eq_some_iff.mp hl1
              refine he ρ3 M11 r M12 e12 _ π10 G10 H10 σ9 R10 (S9.gr g10) _ fun π11 G11 H11 v11 g11 R11 s11 => ?_
              cases s11 with
              | cel _ => cases hl1
              | @dat x' v11 hd11 =>
                dsimp only at hl1
                obtain ⟨⟨rest', M13⟩, e13, hl1⟩ := Option.bind_eq_some_iff.mp hl1
                cases hl1
                refine ⟨vs' ++ vs2, (R11.fr D _ upd_same).1, ?_, ?_⟩
                · rw [List.length_append]
                  have : 1000 * i ≤ 1000 * 1000 := Nat.mul_le_mul_left _ (by omega)
                  exact Nat.lt_of_lt_of_le (show vs'.length + vs2.length < 2000000 by omega) (by decide)
                · refine ⟨M12, π11, G11, acc1 ++ [x'], vs2 ++ [v11], rest', hlt1, by rw [List.length_append]; simp; omega, gk.trans g11, ?_, (hacc1.mono (gj.s.trans g11.s)).append (.cons hd11 .nil), e13, by rw [ho1]; simp⟩
                  have := R11.framed (o' := .lst ((vs' ++ vs2) ++ [v11])) upd_same
                  rw [upd_upd, List.append_assoc] at this
                  rw [List.append_assoc]
                  exact this
            | false =>
              rw [if_neg Bool.false_ne_true]
              dsimp only at hl1
              rw [if_neg Bool.false_ne_true] at hl1
              exact ⟨M11, π10, G10, acc1, vs2, rest1, hlt1, by omega, gk, R10, hacc1.mono gj.s, hl1, ho1⟩
          · have ee : es.drop j = [] := List.drop_of_length_le (by omega)
            rw [ee] at hl1
            cases hl1
            rw [List.append_nil] at ho1
            subst ho1
            refine .inl ⟨ok1.stop j H7 (fun b o x => R7.ex b o (g7.s b o x)) (by omega), ?_⟩
            exact ⟨_, π7, G7, acc ++ ys, vs' ++ vs2, zs, hlt, by rw [List.length_append]; omega, (gg.trans g6).trans g7, R7, (hacc.mono ((gh.s.trans g6.s).trans g7.s)).append hacc1, e8, by rw [ho]; simp⟩
        · cases hl
      | false =>
        rw [if_neg Bool.false_ne_true]
        dsimp only at hl
        rw [if_neg Bool.false_ne_true] at hl
        exact ⟨M5, π5, G5, acc, vs', rest, hlt, by omega, gg, R5, hacc.mono gh.s, hl, ho⟩
    · have e : ds.drop i = [] := List.drop_of_length_le (by omega)
      rw [e] at hl
      cases hl
      rw [List.append_nil] at ho
      subst ho
      obtain ⟨R6, sg6⟩ := R'.unframe hF
      exact .inl ⟨ok.stop i H' (fun b o x => R'.ex b o (g'.s b o x)) (by omega), q π' _ H' _ ((g1'.trans g').trans (.of sg6)) R6 (.dat (.lst (SqL.of upd_same) (hacc.mono sg6)))⟩
  · cases h
end
end Sm

namespace Sm
open PySem PySem.Spec PyProof.Rows L2
section
variable {K : PySem.W.Frag}
/-- a value's truth -/
def bTru (a : SE) : SB := fun ρ M => (a ρ M).bind fun x => match x.1 with
  | .dat (.bool b) => some (b, x.2)
  | .dat (.int i) => some (i != 0, x.2)
  | .dat .none => some (false, x.2)
  | .dat (.list ds) => some (!ds.isEmpty, x.2)
  | .dat (.tuple ds) => some (!ds.isEmpty, x.2)
  | _ => none
theorem isE {G : Hp} {vs : List V} {ds : List PyData} (h : DqAll K G vs ds) : (!ds.isEmpty) = !vs.isEmpty := by cases h <;> rfl
theorem eb_truth {ta : TE} {a : SE} (ha : EvS K ta a) : EvB K (fun σ H Q => ta σ H fun x H' => ∃ k, TruV K x H' k ∧ Q k H') (bTru a) := by
  intro ρ M z M' h F π G H σ R S Q q
  unfold bTru at h
  obtain ⟨⟨x, M1⟩, h1, h⟩ := Option.bind_eq_some_iff.mp h
  refine ha ρ M x M1 h1 F π G H σ R S _ fun π1 G1 H1 v1 g1 R1 s1 => ?_
  cases s1 with
  | cel _ => cases h
  | dat hd =>
    cases hd with
    | bl i => cases h; exact ⟨_, rfl, q π1 G1 H1 g1 R1⟩
    | int i => cases h; exact ⟨_, rfl, q π1 G1 H1 g1 R1⟩
    | non => cases h; exact ⟨_, rfl, q π1 G1 H1 g1 R1⟩
    | lst hs ha => cases h; exact ⟨_, .inl ⟨_, R1.ex.seq hs, isE ha⟩, q π1 G1 H1 g1 R1⟩
    | tup hs ha => cases h; exact ⟨_, .inr (.inl ⟨_, same_sqT R1.ex hs, isE ha⟩), q π1 G1 H1 g1 R1⟩
    | _ => cases h
/-- {} and {'a': x} -/
def eD0 : SE := fun _ M => some (.dat (.dict []), M)
theorem ev_d0 : EvS K tDNewK eD0 := by
  intro ρ M z M' h F π G H σ R S Q q
  cases h
  intro p hp
  have al : Al G H (upd G p (.dK [])) (upd H p (.dK [])) := .new hp
  exact q π _ _ _ (.of (R.alSame al)) (R.al al) (.dat (.dic (.inl upd_same) .nil))
def eD1 (k : Str) (a : SE) : SE := fun ρ M => (a ρ M).bind fun x => match x.1 with
  | .dat d => some (.dat (.dict [(.str k, d)]), x.2)
  | _ => none
theorem ev_d1 {k : Str} {ta : TE} {a : SE} (ha : EvS K ta a) : EvS K (tDisp [(tC (.str k), ta)]) (eD1 k a) := by
  intro ρ M z M' h F π G H σ R S Q q
  unfold eD1 at h
  obtain ⟨⟨x, M1⟩, h1, h⟩ := Option.bind_eq_some_iff.mp h
  intro p hp
  have hF := R.frNone hp
  refine ha ρ M x M1 h1 (upd F p (.dK [])) π G (upd H p (.dK [])) σ (R.frame hp) S _ fun π1 G1 H1 v1 g1 R1 s1 => ?_
  cases s1 with
  | cel _ => cases h
  | @dat d v1 hd =>
    cases h
    refine ⟨(R1.fr p _ upd_same).1, [(.inr k, v1)], rfl, (by show 1 ≤ 15; decide), ?_⟩
    have R2 := R1.framed (o' := .dK (mergeK [] [(.inr k, v1)])) upd_same
    rw [upd_upd] at R2
    obtain ⟨R3, sg⟩ := R2.unframe hF
    exact q π1 _ _ _ (g1.trans (.of sg)) R3 (.dat (.dic (.inl upd_same) (.cons (k := .inr k) (hd.mono sg) .nil)))
/-- a global of the written part -/
theorem ev_glob {v : V} {d : PyData} (hd : ∀ G, Dq K G v d) : EvS K (tC v) (eC d) := ev_c hd
theorem ev_int {i : Int} : EvS K (tC (.int i)) (eC (.int i)) := ev_c fun _ => .int i
theorem ev_bl {b : Bool} : EvS K (tC (.bl b)) (eC (.bool b)) := ev_c fun _ => .bl b
theorem ev_non : EvS K (tC .non) (eC .none) := ev_c fun _ => .non
theorem ev_str {x : Str} : EvS K (tC (.str x)) (eC (.str x)) := ev_c fun _ => .str x
/-- a tuple of the written part, of ints -/
theorem dq_ktup {a : Addr} {ns : List Int} {o : Obj} {its : Array Value} {n : Nat} (h1 : K.lookup a = some o) (h2 : o.cls = .type "tuple") (h3 : o.data = .seq its n) (h4 : its.size ≤ sizeLine) (h5 : Vals (ns.map V.int) its.toList) : ∀ G, Dq K G (.ref a) (.tuple (ns.map PyData.int)) :=
  fun G => .tup (.inr ⟨o, its, n, h1, h2, h3, h4, h5⟩) (ints_all ns)
end
end Sm

namespace Sm
open PySem PySem.Spec PyProof.Rows L2
section
variable {prog : Program} {w : World} {A : Around} {E : Value → Shared → Prop} {s : Shared}
theorem rev_applied {sl : Addr} {vl vu vk : Value} {n : Nat} {Q : Int × Int × Nat → Shared → Prop} (hs : s.heap.IsSliceOf sl vl vu vk) (pl : IsPart vl none) (pu : IsPart vu none) (pk : IsPart vk (some (-1)))
    (h : Q ((n : Int) - 1, -1, n) s) : wpAny (model prog w) A (Builtin.Slice.sliceApplied (.ref sl) (pure (n : Int))) Q E s := by
  obtain ⟨os, hos, hcs, hds⟩ := id hs
  unfold Builtin.Slice.sliceApplied Builtin.Slice.sliceFields
  refine wpAny_bind (wpAny_bind (wpAny_field hos hds (x := vl) rfl (wpAny_bind (wpAny_field hos hds (x := vu) rfl (wpAny_bind (wpAny_field hos hds (x := vk) rfl (wpAny_pure ?_)))))))
  refine wpAny_bind (HT.slicePart_ pk ?_)
  show wpAny _ _ (if ((-1 : Int) == 0) = true then _ else _) _ _ s
  rw [if_neg (by decide)]
  refine wpAny_bind (HT.slicePart_ pl (wpAny_bind (HT.slicePart_ pu (wpAny_bind (wpAny_pure ?_)))))
  have e : Builtin.Slice.sliceAdjust none none (-1) (n : Int) = ((n : Int) - 1, -1) := rfl
  show wpAny _ _ (match Builtin.Slice.sliceAdjust none none (-1) (n : Int) with | (lo, hi) => pure (lo, (-1 : Int), Builtin.Slice.slicePlaces lo hi (-1))) _ _ s
  rw [e]
  show wpAny _ _ (pure ((n : Int) - 1, (-1 : Int), Builtin.Slice.slicePlaces ((n : Int) - 1) (-1) (-1))) _ _ s
  have e2 : Builtin.Slice.slicePlaces ((n : Int) - 1) (-1) (-1) = n := by
    unfold Builtin.Slice.slicePlaces
    have h1 : ¬ ((-1 : Int) > 0) := by decide
    rw [if_neg h1]
    rw [show (- -1 : Int) = 1 by decide, Int.ediv_one]
    split <;> omega
  rw [e2]
  exact wpAny_pure h
theorem fm_congr {α β : Type} {f g : α → Option β} : ∀ l : List α, (∀ x ∈ l, f x = g x) → l.filterMap f = l.filterMap g
  | [], _ => rfl
  | x :: l, h => by
    rw [List.filterMap_cons, List.filterMap_cons, h x List.mem_cons_self, fm_congr l fun y hy => h y (List.mem_cons_of_mem _ hy)]
theorem rev_pick (xs : Array Value) : ((List.range xs.size).filterMap fun (m : Nat) => xs[((xs.size : Int) - 1 + (m : Int) * (-1)).toNat]?).toArray = xs.toList.reverse.toArray := by
  have e : (List.range xs.size).filterMap (fun (m : Nat) => xs[((xs.size : Int) - 1 + (m : Int) * (-1)).toNat]?) = ((List.range xs.size).map fun k => xs.size - 1 - k).filterMap (xs[·]?) := by
    rw [List.filterMap_map]
    apply fm_congr
    intro m hm
    have := List.mem_range.mp hm
    have q : ((xs.size : Int) - 1 + (m : Int) * (-1)).toNat = xs.size - 1 - m := by omega
    show xs[((xs.size : Int) - 1 + (m : Int) * (-1)).toNat]? = xs[xs.size - 1 - m]?
    rw [q]
  rw [e, PySem.W.krv_range, List.filterMap_reverse, PySem.W.krv_all]
open HT in
theorem getItem_tuple_rev {t sl : Addr} {items : Array Value} {vl vu vk : Value} {Q : Value → Shared → Prop} (ht : IsTup s.heap t items) (hs : s.heap.IsSliceOf sl vl vu vk) (pl : IsPart vl none) (pu : IsPart vu none) (pk : IsPart vk (some (-1)))
    (h : Q (.ref s.heap.objs.size) { s with heap := s.heap.push { cls := .type "tuple", data := .seq items.toList.reverse.toArray } })
    (hsz : items.size ≤ sizeLine) : wpAny (model prog w) A (getItem (.ref t) (.ref sl)) Q E s := by
  have htake : sizeOk (.seq items.toList.reverse.toArray) := by
    show items.toList.reverse.toArray.size ≤ sizeLine
    rw [List.size_toArray, List.length_reverse, Array.length_toList]
    omega
  obtain ⟨os, hos, hcs, hds⟩ := id hs
  have hTs : s.TypeIs (.ref sl) "slice" := ⟨os, hos, hcs⟩
  unfold getItem
  try with_reducible refine wpAny_holding ?_
  first | refine wpAny_bind (wpAny_pure ?_) | skip
  refine wpAny_bind (wpAny_sequenceKey ht.typeIs (by decide) ?_)
  refine wpAny_bind (wpAny_callSpecial?_slot (name := Str.ofString "__getitem__") ht.typeIs PyProof.Rows.slot_tuple_getitem
    (wpAny_call_entry PyProof.Rows.slot_tuple_getitem ht.typeIs entry_tuple_getitem ?_ (args_tuple_getitem _ _)))
  show wpAny _ _ (Builtin.Tuple.tupleItemsOf (.ref t) >>= _) _ _ s
  refine wpAny_bind (tupleItemsOf_ ht ?_)
  refine wpAny_bind (wpAny_typeOf hTs ?_)
  rw [if_pos (by decide)]
  refine wpAny_bind (rev_applied hs pl pu pk ?_)
  have hno : ¬ ((((items.size : Int) - 1) == 0 && (-1 : Int) == 1 && items.size == items.size) = true) := by
    intro q
    rw [Bool.and_eq_true, Bool.and_eq_true] at q
    exact absurd q.1.2 (by decide)
  show wpAny _ _ (if (((items.size : Int) - 1) == 0 && (-1 : Int) == 1 && items.size == items.size) = true then _ else _) _ _ s
  rw [if_neg hno, rev_pick]
  first
    | exact wpAny_bind (m := Builtin.Tuple.tupleExact _) (wpAny_newObj_type (wpAny_pure ⟨_, rfl, wpAny_pure h⟩) htake)
    | exact wpAny_bind (m := Builtin.Tuple.tupleExact _) (wpAny_newObj_type (wpAny_bind (wpAny_pure (wpAny_pure ⟨_, rfl, wpAny_pure h⟩))) htake)
    | exact wpAny_bind (wpAny_bind (m := Builtin.Tuple.tupleExact _) (wpAny_newObj_type (wpAny_pure (wpAny_pure ⟨_, rfl, wpAny_pure h⟩)) htake))
    | exact wpAny_bind (wpAny_bind (m := Builtin.Tuple.tupleExact _) (wpAny_newObj_type (wpAny_pure ⟨_, rfl, wpAny_pure h⟩) htake))
end
section
variable {X : Cx}
def rRevA (K : PySem.W.Frag) : V → Hp → VK → Prop := fun x H1 Q => (∃ a xs, x = .ref a ∧ SqL K H1 a xs ∧ ∀ p, H1 p = none → Q (.ref p) (upd H1 p (.lst xs.reverse))) ∨
  (∃ a xs, x = .ref a ∧ SqT K H1 a xs ∧ ∀ p, H1 p = none → Q (.ref p) (upd H1 p (.tup xs.reverse)))
theorem pe_revA {e : Expr} {te : TE} {k : Nat} {p1 p2 p3 pos : Pos} (he : PE X e te) : PE X (.Subscript e (.Slice none none (some (.UnaryOp .USub (.Constant (.int 1) k p1) p2)) p3) pos) (tUn (rRevA X.K) te) := by
  refine ⟨fun pins s σ H Q I h => ?_⟩
  refine Subscript_ (thn (he.run pins s σ H _ I h) fun v s1 ⟨x, H1, I1, r1, q1⟩ => ?_)
  have hst : PO X (some (.UnaryOp .USub (.Constant (.int 1) k p1) p2)) (tPart (tUn (rU fun i => .int (-i)) (tC (.int 1)))) := po_some (pe_un un_neg pe_int)
  refine wpAny_Slice (thn (po_none.run pins s1 σ H1 (fun o H2 => o = none ∧ H2 = H1) I1 ⟨rfl, rfl⟩) fun vl s2 ⟨l, H2, I2, pl, el, e2⟩ => ?_)
  subst el e2
  refine thn (po_none.run pins s2 σ H2 (fun o H3 => o = none ∧ H3 = H2) I2 ⟨rfl, rfl⟩) fun vu s3 ⟨u, H3, I3, pu, eu, e3⟩ => ?_
  subst eu e3
  refine thn (hst.run pins s3 σ H3 (fun o H4 => o = some (-1) ∧ H4 = H3) I3 ⟨1, rfl, -1, rfl, rfl, rfl⟩) fun vs s4 ⟨o, H4, I4, ps, eo, e4⟩ => ?_
  subst eo e4
  have I5 : Inv X pins σ H4 { s4 with heap := s4.heap.push { cls := .type "slice", data := .fields #[vl, vu, vs] } } := I4.kept (t' := s4.toks) fun b ob q => Heap.get?_push_of_some _ q
  rcases q1 with ⟨a, xs, ex, hx, q⟩ | ⟨a, xs, ex, hx, q⟩
  · subst ex
    cases r1
    obtain ⟨its, r, ht, hz⟩ := I5.list hx
    have hlen := r.length
    show wpAny (model X.prog X.w) X.A (subscriptTail e (.Slice none none (some (.UnaryOp .USub (.Constant (.int 1) k p1) p2)) p3) (.ref a) (.ref s4.heap.objs.size)) (EP X pins σ Q) X.xe { s4 with heap := s4.heap.push { cls := .type "slice", data := .fields #[vl, vu, vs] } }
    refine tail_any (ops := [.ref a, .ref s4.heap.objs.size]) ht.isList.typeIs (PySem.slot_list_getitem.lookup) ?_ (by with_unfolding_all rfl)
    refine wpAny_getItem_list_slice ht.isList (Heap.IsSliceOf.new _ vl vu vs) pl pu ps (by decide) ?_ (by rw [List.size_toArray]; omega)
    rw [PySem.W.krv_pick]
    refine ⟨.ref _, _, I5.laid (t' := s4.toks) (o := .lst xs.reverse) (fun b ob q => Heap.get?_push_of_some _ q) (Nat.le_refl _) ?_, rfl, q _ (I5.hok.fresh (Nat.le_refl _))⟩
    exact ⟨by rw [List.length_reverse]; exact hz, _, 0, r.reverse, Heap.get?_push_size _ rfl⟩
  · subst ex
    cases r1
    obtain ⟨its, r, ht, hz⟩ := I5.tuple hx
    have hlen := r.length
    show wpAny (model X.prog X.w) X.A (subscriptTail e (.Slice none none (some (.UnaryOp .USub (.Constant (.int 1) k p1) p2)) p3) (.ref a) (.ref s4.heap.objs.size)) (EP X pins σ Q) X.xe { s4 with heap := s4.heap.push { cls := .type "slice", data := .fields #[vl, vu, vs] } }
    refine tail_any (ops := [.ref a, .ref s4.heap.objs.size]) ht.typeIs (PyProof.Rows.slot_tuple_getitem.lookup) ?_ (by with_unfolding_all rfl)
    refine getItem_tuple_rev ht (Heap.IsSliceOf.new _ vl vu vs) pl pu ps ?_ (by rw [List.size_toArray]; omega)
    refine ⟨.ref _, _, I5.laid (t' := s4.toks) (o := .tup xs.reverse) (fun b ob q => Heap.get?_push_of_some _ q) (Nat.le_refl _) ?_, rfl, q _ (I5.hok.fresh (Nat.le_refl _))⟩
    exact ⟨by rw [List.length_reverse]; exact hz, _, r.reverse, _, Heap.get?_push_size _ rfl, rfl, 0, rfl⟩
/-- a op1 b op2 c op3 e, as a value -/
def tChain3 (r r' r'' : R2) (ta tb tc td : TE) : TE := fun σ H Q => ta σ H fun x H1 => tb σ H1 fun y H2 => r x y H2 fun z H3 => ∃ k, z = .bl k ∧
  (if k = true then tc σ H3 fun w' H4 => r' y w' H4 fun z' H5 => ∃ k', z' = .bl k' ∧ (if k' = true then td σ H5 fun v' H6 => r'' w' v' H6 Q else Q (.bl false) H5) else Q (.bl false) H3)
theorem pe_chain3 {a b c d : Expr} {ta tb tc td : TE} {pos : Pos} {op op' op'' : CmpOp} {r r' r'' : R2} (ho : OpR X (compareOp op) r) (ho' : OpR X (compareOp op') r') (ho'' : OpR X (compareOp op'') r'') (ha : PE X a ta) (hb : PE X b tb) (hc : PE X c tc) (hd : PE X d td)
    (hm : lastMarks [op, op', op''] [b, c, d] = false := by with_unfolding_all rfl) : PE X (.Compare a [op, op', op''] [b, c, d] pos) (tChain3 r r' r'' ta tb tc td) := by
  refine ⟨fun pins s σ H Q I h => ?_⟩
  refine Compare_chain (thn (ha.run pins s σ H _ I h) fun v s1 ⟨x, H1, I1, r1, q1⟩ => chain_link (thn (hb.run pins s1 σ H1 _ I1 q1) fun u s2 ⟨y, H2, I2, r2, q2⟩ =>
    thn (ho pins s2 σ H2 x y v u _ I2 r1 r2 q2) fun d s3 ⟨z, H3, I3, r3, k, e, q3⟩ => ?_)) hm
  subst e
  cases r3
  refine wpAny_truthy_bool ?_
  cases k with
  | false => exact ite_ff ⟨.bl false, H3, I3, rfl, q3⟩
  | true =>
    refine ite_tt (chain_link (thn (hc.run pins s3 σ H3 _ I3 q3) fun w' s4 ⟨z', H4, I4, r4, q4⟩ => thn (ho' pins s4 σ H4 y z' u w' _ I4 r2 r4 q4) fun d' s5 ⟨z5, H5, I5, r5, k', e', q5⟩ => ?_))
    subst e'
    cases r5
    refine wpAny_truthy_bool ?_
    cases k' with
    | false => exact ite_ff ⟨.bl false, H5, I5, rfl, q5⟩
    | true => exact ite_tt (chain_last (thn (hd.run pins s5 σ H5 _ I5 q5) fun w6 s6 ⟨z6, H6, I6, r6, q6⟩ => ho'' pins s6 σ H6 z' z6 w' w6 Q I6 r4 r6 q6))
end
def eChain3 (f f' f'' : Mem → SV → SV → Option SV) (a b c d : SE) : SE := fun ρ M => (a ρ M).bind fun x => (b ρ x.2).bind fun y => (f y.2 x.1 y.1).bind fun z => match z with
  | .dat (.bool k) => if k = true then (c ρ y.2).bind fun w => (f' w.2 y.1 w.1).bind fun u => match u with
      | .dat (.bool k') => if k' = true then (d ρ w.2).bind fun v => (f'' v.2 w.1 v.1).bind fun t => some (t, v.2) else some (.dat (.bool false), w.2)
      | _ => none
    else some (.dat (.bool false), y.2)
  | _ => none
def dRev : PyData → Option PyData
  | .list ds => some (.list ds.reverse)
  | .tuple ds => some (.tuple ds.reverse)
  | _ => none
section
variable {K : PySem.W.Frag}
theorem us_rev : UnS K (rRevA K) (lift1 dRev) := us_lift (by
  intro x z e G H v sm dx Q q
  cases dx <;> first | cases e | skip
  · rename_i a xs ds hs ha
    refine .inl ⟨a, xs, rfl, sm.seq hs, fun p hp => ?_⟩
    exact q _ _ _ (.new hp) (.lst (SqL.of upd_same) (ha.reverse.mono (same_upd (none_of_same sm hp))))
  · rename_i a xs ds hs ha
    refine .inr ⟨a, xs, rfl, same_sqT sm hs, fun p hp => ?_⟩
    exact q _ _ _ (.new hp) (.tup (SqT.of upd_same) (ha.reverse.mono (same_upd (none_of_same sm hp)))))
theorem ev_rev {ta : TE} {a : SE} (ha : EvS K ta a) : EvS K (tUn (rRevA K) ta) (eUn (lift1 dRev) a) := ev_un ha us_rev
theorem ev_chain3 {ta tb tc td : TE} {a b c d : SE} {r r' r'' : R2} {f f' f'' : Mem → SV → SV → Option SV} (ha : EvS K ta a) (hb : EvS K tb b) (hc : EvS K tc c) (hd : EvS K td d) (ho : OpS K r f) (ho' : OpS K r' f') (ho'' : OpS K r'' f'') : EvS K (tChain3 r r' r'' ta tb tc td) (eChain3 f f' f'' a b c d) := by
  intro ρ M z M' h F π G H σ R S Q q
  unfold eChain3 at h
  obtain ⟨⟨x, M1⟩, h1, h⟩ := Option.bind_eq_some_iff.mp h
  obtain ⟨⟨y, M2⟩, h2, h⟩ := Option.bind_eq_some_iff.mp h
  obtain ⟨z', h3, h⟩ := Option.bind_eq_some_iff.mp h
  refine ha ρ M x M1 h1 F π G H σ R S _ fun π1 G1 H1 v1 g1 R1 s1 => ?_
  refine hb ρ M1 y M2 h2 F π1 G1 H1 σ R1 (S.gr g1) _ fun π2 G2 H2 v2 g2 R2 s2 => ?_
  refine ho M2 x y z' h3 F π2 G2 H2 v1 v2 R2 (s1.gr g2) s2 _ fun G3 H3 u al s3 => ?_
  have g3 := (g1.trans g2).trans (Gr.of (R2.alSame al))
  have R3 := R2.al al
  cases s3 with
  | cel _ => cases h
  | dat hd3 =>
    cases hd3 with
    | bl i =>
      refine ⟨i, rfl, ?_⟩
      cases i with
      | false =>
        rw [if_neg Bool.false_ne_true]
        cases h
        exact q π2 G3 H3 _ g3 R3 (.dat (.bl false))
      | true =>
        rw [if_pos rfl]
        dsimp only at h
        rw [if_pos rfl] at h
        obtain ⟨⟨w, M3⟩, h4, h⟩ := Option.bind_eq_some_iff.mp h
        obtain ⟨u', h5, h⟩ := Option.bind_eq_some_iff.mp h
        refine hc ρ M2 w M3 h4 F π2 G3 H3 σ R3 (S.gr g3) _ fun π4 G4 H4 v4 g4 R4 s4 => ?_
        refine ho' M3 y w u' h5 F π4 G4 H4 v2 v4 R4 ((s2.gr (Gr.of (R2.alSame al))).gr g4) s4 _ fun G5 H5 u al5 s5 => ?_
        have g5 := (g3.trans g4).trans (Gr.of (R4.alSame al5))
        have R5 := R4.al al5
        cases s5 with
        | cel _ => cases h
        | dat hd5 =>
          cases hd5 with
          | bl i =>
            refine ⟨i, rfl, ?_⟩
            cases i with
            | false =>
              rw [if_neg Bool.false_ne_true]
              cases h
              exact q π4 G5 H5 _ g5 R5 (.dat (.bl false))
            | true =>
              rw [if_pos rfl]
              dsimp only at h
              rw [if_pos rfl] at h
              obtain ⟨⟨v, M4⟩, h6, h⟩ := Option.bind_eq_some_iff.mp h
              obtain ⟨t, h7, h⟩ := Option.bind_eq_some_iff.mp h
              cases h
              refine hd ρ M3 v M4 h6 F π4 G5 H5 σ R5 (S.gr g5) _ fun π6 G6 H6 v6 g6 R6 s6 => ?_
              exact ho'' M4 w v _ h7 F π6 G6 H6 v4 v6 R6 ((s4.gr (Gr.of (R4.alSame al5))).gr g6) s6 Q fun G7 H7 u al7 s7 => q π6 G7 H7 u ((g5.trans g6).trans (.of (R6.alSame al7))) (R6.al al7) s7
          | _ => cases h
    | _ => cases h
end
end Sm

/-! SmV: how the plain functions are reckoned. -/
namespace Sm
open PySem L2

/-! ### steps -/
section
variable {ρ : Rho} {M M1 M2 M3 : Mem} {x y z : SV} {a b c : SE}
theorem eOp_eq {f : Mem → SV → SV → Option SV} (h1 : a ρ M = some (x, M1)) (h2 : b ρ M1 = some (y, M2)) (h3 : f M2 x y = some z) : eOp f a b ρ M = some (z, M2) := by
  simp only [eOp, h1, h2, h3, Option.bind_some]
theorem eUn_eq {f : Mem → SV → Option SV} (h1 : a ρ M = some (x, M1)) (h3 : f M1 x = some z) : eUn f a ρ M = some (z, M1) := by
  simp only [eUn, h1, h3, Option.bind_some]
theorem aNil_eq : aNil ρ M = some ([], M) := rfl
theorem aCons_eq {as : SA} {xs : List SV} (h1 : a ρ M = some (x, M1)) (h2 : as ρ M1 = some (xs, M2)) : aCons a as ρ M = some (x :: xs, M2) := by
  simp only [aCons, h1, h2, Option.bind_some]
theorem eCB_eq {f : Mem → List SV → Option SV} {as : SA} {xs : List SV} (h1 : as ρ M = some (xs, M1)) (h2 : f M1 xs = some z) : eCB f as ρ M = some (z, M1) := by
  simp only [eCB, h1, h2, Option.bind_some]
theorem eCall_eq {f : SF} {as : SA} {xs : List SV} {r : Option (SV × Mem)} (h1 : as ρ M = some (xs, M1)) (h2 : f xs M1 = r) : eCall f as ρ M = r := by
  simp only [eCall, h1, h2, Option.bind_some]
theorem eTup_eq {as : SA} {xs : List SV} {ds : List PyData} (h1 : as ρ M = some (xs, M1)) (h2 : dats xs = some ds) (h3 : ds.length ≤ 100000) : eTup as ρ M = some (.dat (.tuple ds), M1) := by
  simp only [eTup, h1, h2, Option.bind_some, h3, if_true]
theorem eLst_eq {as : SA} {xs : List SV} {ds : List PyData} (h1 : as ρ M = some (xs, M1)) (h2 : dats xs = some ds) (h3 : ds.length ≤ 100000) : eLst as ρ M = some (.dat (.list ds), M1) := by
  simp only [eLst, h1, h2, Option.bind_some, h3, if_true]
theorem eNew_eq {as : SA} {xs : List SV} (h1 : as ρ M = some (xs, M1)) (h3 : xs.length ≤ 100000) : eNew as ρ M = some (.cel M1.length, M1 ++ [some xs]) := by
  simp only [eNew, h1, Option.bind_some, h3, if_true]
theorem eIf_t {t : SB} {r : Option (SV × Mem)} (h1 : t ρ M = some (true, M1)) (h2 : a ρ M1 = r) : eIf t a b ρ M = r := by
  simp only [eIf, h1, Option.bind_some, h2, if_true]
theorem eIf_f {t : SB} {r : Option (SV × Mem)} (h1 : t ρ M = some (false, M1)) (h2 : b ρ M1 = r) : eIf t a b ρ M = r := by
  simp only [eIf, h1, Option.bind_some, h2, Bool.false_eq_true, if_false]
theorem bVal_eq {v : Bool} (h1 : a ρ M = some (.dat (.bool v), M1)) : bVal a ρ M = some (v, M1) := by
  simp only [bVal, h1, Option.bind_some]
theorem bNot_eq {t : SB} {v : Bool} (h1 : t ρ M = some (v, M1)) : bNot t ρ M = some (!v, M1) := by
  simp only [bNot, h1, Option.bind_some]
theorem bAnd_eq {t u : SB} {v w : Bool} (h1 : t ρ M = some (v, M1)) (h2 : v = true → u ρ M1 = some (w, M1)) : bAnd t u ρ M = some (v && w, M1) := by
  cases v with
  | true => simp only [bAnd, h1, Option.bind_some, if_true, h2 rfl, Bool.true_and]
  | false => simp only [bAnd, h1, Option.bind_some, Bool.false_eq_true, if_false, Bool.false_and]
theorem bOr_eq {t u : SB} {v w : Bool} (h1 : t ρ M = some (v, M1)) (h2 : v = false → u ρ M1 = some (w, M1)) : bOr t u ρ M = some (v || w, M1) := by
  cases v with
  | false => simp only [bOr, h1, Option.bind_some, Bool.false_eq_true, if_false, h2 rfl, Bool.false_or]
  | true => simp only [bOr, h1, Option.bind_some, if_true, Bool.true_or]
theorem eAnd_eq {v w : Bool} (h1 : a ρ M = some (.dat (.bool v), M1)) (h2 : v = true → b ρ M1 = some (.dat (.bool w), M1)) : eAnd a b ρ M = some (.dat (.bool (v && w)), M1) := by
  cases v with
  | true => simp only [eAnd, h1, Option.bind_some, if_true, h2 rfl, Bool.true_and]
  | false => simp only [eAnd, h1, Option.bind_some, Bool.false_eq_true, if_false, Bool.false_and]
theorem eOr_eq {v w : Bool} (h1 : a ρ M = some (.dat (.bool v), M1)) (h2 : v = false → b ρ M1 = some (.dat (.bool w), M1)) : eOr a b ρ M = some (.dat (.bool (v || w)), M1) := by
  cases v with
  | false => simp only [eOr, h1, Option.bind_some, Bool.false_eq_true, if_false, h2 rfl, Bool.false_or]
  | true => simp only [eOr, h1, Option.bind_some, if_true, Bool.true_or]
theorem eNot_eq {v : Bool} (h1 : a ρ M = some (.dat (.bool v), M1)) : eNot a ρ M = some (.dat (.bool (!v)), M1) := by
  simp only [eNot, h1, Option.bind_some]
theorem sSeq_nx {s u : SS} {ρ1 : Rho} {r : Option Ctl} (h1 : s ρ M = some (.nx ρ1 M1)) (h2 : u ρ1 M1 = r) : sSeq s u ρ M = r := by
  simp only [sSeq, h1, Option.bind_some, h2]
theorem sSeq_rt {s u : SS} {v : SV} (h1 : s ρ M = some (.rt v M1)) : sSeq s u ρ M = some (.rt v M1) := by
  simp only [sSeq, h1, Option.bind_some]
theorem sAsg_eq {g : SG} {ρ1 : Rho} (h1 : a ρ M = some (x, M1)) (h2 : g x ρ M1 = some (ρ1, M2)) : sAsg a g ρ M = some (.nx ρ1 M2) := by
  simp only [sAsg, h1, h2, Option.bind_some]
theorem sRet_eq (h1 : a ρ M = some (x, M1)) : sRet a ρ M = some (.rt x M1) := by
  simp only [sRet, h1, Option.bind_some]
theorem sIf_t {t : SB} {s u : SS} {r : Option Ctl} (h1 : t ρ M = some (true, M1)) (h2 : s ρ M1 = r) : sIf t s u ρ M = r := by
  simp only [sIf, h1, Option.bind_some, h2, if_true]
theorem sIf_f {t : SB} {s u : SS} {r : Option Ctl} (h1 : t ρ M = some (false, M1)) (h2 : u ρ M1 = r) : sIf t s u ρ M = r := by
  simp only [sIf, h1, Option.bind_some, h2, Bool.false_eq_true, if_false]
theorem sFor_eq {it : SI} {g : SG} {s : SS} {ds : List PyData} {r : Option Ctl} (h1 : it ρ M = some (ds, M1)) (h2 : loop g s ds ρ M1 = r) : sFor it g s ρ M = r := by
  simp only [sFor, h1, Option.bind_some, h2]
theorem sPar_eq {i j : Nat} {as : SA} {u v : SV} (h1 : as ρ M = some ([u, v], M1)) : sPar i j as ρ M = some (.nx ((ρ.set i (some u)).set j (some v)) M1) := by
  simp only [sPar, h1, Option.bind_some]
theorem loop_nx {g : SG} {s : SS} {d : PyData} {ds : List PyData} {ρ1 ρ2 : Rho} {r : Option Ctl} (h1 : g (.dat d) ρ M = some (ρ1, M1)) (h2 : s ρ1 M1 = some (.nx ρ2 M2)) (h3 : loop g s ds ρ2 M2 = r) : loop g s (d :: ds) ρ M = r := by
  simp only [loop, h1, Option.bind_some, h2, h3]
theorem whl_nx {t : SB} {s : SS} {n : Nat} {ρ2 : Rho} {r : Option Ctl} (h1 : t ρ M = some (true, M1)) (h2 : s ρ M1 = some (.nx ρ2 M2)) (h3 : whl t s n ρ2 M2 = r) : whl t s (n + 1) ρ M = r := by
  simp only [whl, h1, Option.bind_some, if_true, h2, h3]
theorem whl_end {t : SB} {s : SS} {n : Nat} (h1 : t ρ M = some (false, M1)) : whl t s (n + 1) ρ M = some (.nx ρ M1) := by
  simp only [whl, h1, Option.bind_some, Bool.false_eq_true, if_false]
theorem lcL_cons {g : SG} {el : SE} {d : PyData} {ds : List PyData} {ρ1 : Rho} {x : PyData} {xs : List PyData} (h1 : g (.dat d) ρ M = some (ρ1, M)) (h2 : el ρ1 M = some (.dat x, M1)) (h3 : lcL g bYes el ρ ds M1 = some (xs, M2)) : lcL g bYes el ρ (d :: ds) M = some (x :: xs, M2) := by
  simp only [lcL, h1, Option.bind_some, bYes, if_true, h2, h3]
theorem mkF_rt {n : Nat} {s : SS} {args : List SV} {d : PyData} (h : s (args.map some ++ List.replicate (n - args.length) none) M = some (.rt (.dat d) M1)) : mkF n s args M = some (.dat d, M1.take M.length) := by
  simp only [mkF, h, Option.bind_some, fin]
theorem mkF_rt0 {n : Nat} {s : SS} {args : List SV} {d : PyData} (h : s (args.map some ++ List.replicate (n - args.length) none) M = some (.rt (.dat d) M)) : mkF n s args M = some (.dat d, M) := by
  simp only [mkF, h, Option.bind_some, fin, List.take_length]
theorem mkF_rtL {n : Nat} {s : SS} {args : List SV} {d : PyData} (hl : M1.length = M.length) (h : s (args.map some ++ List.replicate (n - args.length) none) M = some (.rt (.dat d) M1)) : mkF n s args M = some (.dat d, M1) := by
  rw [mkF_rt h, ← hl, List.take_length]
theorem eLc_eq {it : SI} {g : SG} {tt : SB} {el : SE} {vs : List Nat} {ds out : List PyData} (h1 : it ρ M = some (ds, M1)) (h2 : ds.length ≤ 100000) (h3 : lcL g tt el (wipeR ρ vs) ds M1 = some (out, M2)) : eLc it g tt el vs ρ M = some (.dat (.list out), M2) := by
  simp only [eLc, h1, Option.bind_some, h2, if_true, h3]
theorem lcL_map {g : SG} {el : SE} {f : PyData → PyData} : ∀ (ds : List PyData), (∀ d ∈ ds, ∃ ρ1, g (.dat d) ρ M = some (ρ1, M) ∧ el ρ1 M = some (.dat (f d), M)) → lcL g bYes el ρ ds M = some (ds.map f, M)
  | [], _ => rfl
  | d :: ds, h => by
    obtain ⟨ρ1, e1, e2⟩ := h d List.mem_cons_self
    have ih := lcL_map ds (fun x hx => h x (List.mem_cons_of_mem _ hx))
    simp only [lcL, e1, Option.bind_some, bYes, if_true, e2, ih, List.map_cons]
theorem lcL_filter {g : SG} {tt : SB} {el : SE} {p : PyData → Bool} {f : PyData → PyData} : ∀ (ds : List PyData), (∀ d ∈ ds, ∃ ρ1, g (.dat d) ρ M = some (ρ1, M) ∧ tt ρ1 M = some (p d, M) ∧ (p d = true → el ρ1 M = some (.dat (f d), M))) → lcL g tt el ρ ds M = some ((ds.filter p).map f, M)
  | [], _ => rfl
  | d :: ds, h => by
    obtain ⟨ρ1, e1, e2, e3⟩ := h d List.mem_cons_self
    have ih := lcL_filter ds (fun x hx => h x (List.mem_cons_of_mem _ hx))
    cases hp : p d with
    | true => 
      rw [hp] at e2 e3
      simp only [lcL, e1, Option.bind_some, e2, if_true, e3 rfl, ih, List.filter_cons_of_pos hp, List.map_cons]
    | false =>
      rw [hp] at e2
      have hp' : ¬ (p d = true) := by rw [hp]; exact Bool.false_ne_true
      simp only [lcL, e1, Option.bind_some, e2, Bool.false_eq_true, if_false, ih, List.filter_cons_of_neg hp']
/-- a loop by what holds between the turns -/
theorem loop_inv {g : SG} {s : SS} (I : Nat → Rho → Mem → Prop) : ∀ (ds : List PyData) (n : Nat) (ρ : Rho) (M : Mem), I n ρ M →
    (∀ (i : Nat) (d : PyData) (ρ : Rho) (M : Mem), ds[i]? = some d → I (n + i) ρ M → ∃ ρ1 M1 ρ2 M2, g (.dat d) ρ M = some (ρ1, M1) ∧ s ρ1 M1 = some (.nx ρ2 M2) ∧ I (n + i + 1) ρ2 M2) →
    ∃ ρ' M', loop g s ds ρ M = some (.nx ρ' M') ∧ I (n + ds.length) ρ' M'
  | [], n, ρ, M, h, _ => ⟨ρ, M, rfl, h⟩
  | d :: ds, n, ρ, M, h, hs => by
    obtain ⟨ρ1, M1, ρ2, M2, e1, e2, h2⟩ := hs 0 d ρ M rfl h
    obtain ⟨ρ', M', e3, h3⟩ := loop_inv I ds (n + 1) ρ2 M2 h2 (fun i d' ρ M hd hI => by
      have := hs (i + 1) d' ρ M (by simpa using hd) (by rw [show n + (i + 1) = n + 1 + i by omega]; exact hI)
      rw [show n + 1 + i + 1 = n + (i + 1) + 1 by omega]
      exact this)
    refine ⟨ρ', M', loop_nx e1 e2 e3, ?_⟩
    rw [List.length_cons, show n + (ds.length + 1) = n + 1 + ds.length by omega]
    exact h3
theorem lcL_inv {g : SG} {el : SE} {ρ : Rho} (I : Nat → Mem → Prop) (P : PyData → Prop) : ∀ (ds : List PyData) (n : Nat) (M : Mem), I n M →
    (∀ (i : Nat) (d : PyData) (M : Mem), ds[i]? = some d → I (n + i) M → ∃ ρ1 x M1, g (.dat d) ρ M = some (ρ1, M) ∧ el ρ1 M = some (.dat x, M1) ∧ P x ∧ I (n + i + 1) M1) →
    ∃ out M', lcL g bYes el ρ ds M = some (out, M') ∧ out.length = ds.length ∧ (∀ x ∈ out, P x) ∧ I (n + ds.length) M'
  | [], n, M, h, _ => ⟨[], M, rfl, rfl, (fun _ z => nomatch z), h⟩
  | d :: ds, n, M, h, hs => by
    obtain ⟨ρ1, x, M1, e1, e2, hP, h2⟩ := hs 0 d M rfl h
    obtain ⟨out, M', e3, hl, hO, h3⟩ := lcL_inv I P ds (n + 1) M1 h2 (fun i d' M hd hI => by
      have := hs (i + 1) d' M (by simpa using hd) (by rw [show n + (i + 1) = n + 1 + i by omega]; exact hI)
      rw [show n + 1 + i + 1 = n + (i + 1) + 1 by omega]
      exact this)
    refine ⟨x :: out, M', lcL_cons e1 e2 e3, by simp [hl], fun y hy => ?_, ?_⟩
    · rcases List.mem_cons.mp hy with q | q
      · rw [q]; exact hP
      · exact hO y q
    · rw [List.length_cons, show n + (ds.length + 1) = n + 1 + ds.length by omega]
      exact h3
theorem sApp_eq {o : SE} {i : Nat} {d : PyData} {xs0 xs : List SV} (h1 : o ρ M = some (.cel i, M1)) (h2 : a ρ M1 = some (.dat d, M2)) (h3 : M1[i]? = some (some xs0)) (h4 : M2[i]? = some (some xs)) (h5 : xs.length < 100000) : sApp o a ρ M = some (.nx ρ (M2.set i (some (xs ++ [.dat d])))) := by
  simp only [sApp, h1, h2, Option.bind_some, h3, h4, h5, if_true]
theorem sFrz_eq {i j : Nat} {s : SS} {ρ1 : Rho} {xs : List SV} {ds : List PyData} (h1 : s ρ M = some (.nx ρ1 M1)) (h2 : ρ1[i]? = some (some (.cel j))) (h3 : M1[j]? = some (some xs)) (h4 : dats xs = some ds) : sFrz i s ρ M = some (.nx (ρ1.set i (some (.dat (.list ds)))) (M1.set j none)) := by
  simp only [sFrz, h1, Option.bind_some, h2, h3, h4]
theorem dats_map : ∀ ds : List PyData, dats (ds.map SV.dat) = some ds
  | [] => rfl
  | d :: ds => by simp only [List.map_cons, dats, dats_map ds, Option.bind_some]
end
/-! ### leaves -/
section
variable {M : Mem} {i j : Int}
theorem l_add : lift2 dAdd M (.dat (.int i)) (.dat (.int j)) = some (.dat (.int (i + j))) := rfl
theorem l_sub : lift2 dSub M (.dat (.int i)) (.dat (.int j)) = some (.dat (.int (i - j))) := rfl
theorem l_lt : lift2 dLt M (.dat (.int i)) (.dat (.int j)) = some (.dat (.bool (decide (i < j)))) := rfl
theorem l_le : lift2 dLe M (.dat (.int i)) (.dat (.int j)) = some (.dat (.bool (decide (i ≤ j)))) := rfl
theorem l_gt : lift2 dGt M (.dat (.int i)) (.dat (.int j)) = some (.dat (.bool (decide (j < i)))) := rfl
theorem l_ge : lift2 dGe M (.dat (.int i)) (.dat (.int j)) = some (.dat (.bool (decide (j ≤ i)))) := rfl
theorem l_eq : lift2 dEq M (.dat (.int i)) (.dat (.int j)) = some (.dat (.bool (i == j))) := rfl
theorem l_ne : lift2 dNe M (.dat (.int i)) (.dat (.int j)) = some (.dat (.bool (!(i == j)))) := rfl
theorem l_eqS {x y : Str} : lift2 dEq M (.dat (.str x)) (.dat (.str y)) = some (.dat (.bool (x == y))) := rfl
theorem l_neS {x y : Str} : lift2 dNe M (.dat (.str x)) (.dat (.str y)) = some (.dat (.bool (!(x == y)))) := rfl
theorem l_mod (h : 0 < j) : lift2 dMod M (.dat (.int i)) (.dat (.int j)) = some (.dat (.int (i % j))) := by
  simp [lift2, dMod, dI, h]
theorem l_div (h : 0 < j) (h2 : j < 2 ^ 64) : lift2 dDiv M (.dat (.int i)) (.dat (.int j)) = some (.dat (.int (i / j))) := by
  have h2' : j < 18446744073709551616 := h2
  simp [lift2, dDiv, dI, h, h2']
theorem l_pow {n : Nat} (h : n ≤ 64) (h1 : -(2 ^ 64) < i) (h2 : i < 2 ^ 64) : lift2 dPow M (.dat (.int i)) (.dat (.int (n : Int))) = some (.dat (.int (i ^ n))) := by
  have h1' : -18446744073709551616 < i := h1
  have h2' : i < 18446744073709551616 := h2
  have h3 : (n : Int) ≤ 64 := by omega
  simp [lift2, dPow, dI, h1', h2', h3]
theorem l_mul (h : (-(2 ^ 64) < i ∧ i < 2 ^ 64) ∨ (-(2 ^ 64) < j ∧ j < 2 ^ 64)) : lift2 dMul M (.dat (.int i)) (.dat (.int j)) = some (.dat (.int (i * j))) := by
  have : mulOk i j = true := by
    unfold mulOk
    simp only [Bool.or_eq_true, Bool.and_eq_true, decide_eq_true_eq]
    exact h
  simp [lift2, dMul, this]
theorem iR1_eq {ρ : Rho} {M M1 : Mem} {as : SA} (h : as ρ M = some ([.dat (.int j)], M1)) (h1 : -(2 ^ 62) ≤ j) (h2 : j < 2 ^ 62) : iR1 as ρ M = some (rangeD 0 j, M1) := by
  unfold iR1
  rw [h]
  show (if -(2 ^ 62) ≤ j ∧ j < 2 ^ 62 then some (rangeD 0 j, M1) else none) = _
  rw [if_pos ⟨h1, h2⟩]
theorem iR2_eq {ρ : Rho} {M M1 : Mem} {as : SA} (h : as ρ M = some ([.dat (.int i), .dat (.int j)], M1)) (h1 : -(2 ^ 62) ≤ i) (h2 : i < 2 ^ 62) (h3 : -(2 ^ 62) ≤ j) (h4 : j < 2 ^ 62) : iR2 as ρ M = some (rangeD i j, M1) := by
  unfold iR2
  rw [h]
  show (if (-(2 ^ 62) ≤ i ∧ i < 2 ^ 62) ∧ -(2 ^ 62) ≤ j ∧ j < 2 ^ 62 then some (rangeD i j, M1) else none) = _
  rw [if_pos ⟨⟨h1, h2⟩, h3, h4⟩]
theorem eLr2_eq {ρ : Rho} {M M1 M2 : Mem} {a b : SE} (ha : a ρ M = some (.dat (.int i), M1)) (hb : b ρ M1 = some (.dat (.int j), M2)) (h1 : -(2 ^ 20) ≤ i) (h2 : i < 2 ^ 20) (h3 : -(2 ^ 20) ≤ j) (h4 : j < 2 ^ 20) : eLr2 a b ρ M = some (.dat (.list (rangeD i j)), M2) := by
  simp only [eLr2, ha, hb, Option.bind_some]
  rw [if_pos ⟨⟨h1, h2⟩, h3, h4⟩]
theorem iDat_l {ρ : Rho} {M M1 : Mem} {a : SE} {ds : List PyData} (h : a ρ M = some (.dat (.list ds), M1)) : iDat a ρ M = some (ds, M1) := by
  simp only [iDat, h, Option.bind_some]
theorem iDat_t {ρ : Rho} {M M1 : Mem} {a : SE} {ds : List PyData} (h : a ρ M = some (.dat (.tuple ds), M1)) : iDat a ρ M = some (ds, M1) := by
  simp only [iDat, h, Option.bind_some]
theorem l_isi {T : String} {d : PyData} {b : Bool} (h : kitB (tyD d) T = some b) : fIsi T M (.dat d) = some (.dat (.bool b)) := by
  simp only [fIsi, lift1, h, Option.bind_some]
theorem l_repr {d : PyData} (h : (d.showable && decide (d.depth ≤ 64) && decide (wt d ≤ 1000000) && (!d.hasDict || !hasList d)) = true) : lift1 dRepr M (.dat d) = some (.dat (.str d.shown)) := by
  simp only [lift1, dRepr, h, if_true, Option.bind_some]
theorem ki_ii : kitB "int" "int" = some true := by decide +kernel
theorem ki_ib : kitB "int" "bool" = some false := by decide +kernel
theorem ki_bi : kitB "bool" "int" = some true := by decide +kernel
theorem ki_bb : kitB "bool" "bool" = some true := by decide +kernel
theorem ki_ni : kitB "NoneType" "int" = some false := by decide +kernel
theorem ki_si : kitB "str" "int" = some false := by decide +kernel
theorem ki_li : kitB "list" "int" = some false := by decide +kernel
theorem ki_ti : kitB "tuple" "int" = some false := by decide +kernel
theorem ki_di : kitB "dict" "int" = some false := by decide +kernel
theorem ki_it : kitB "int" "tuple" = some false := by decide +kernel
theorem ki_bt : kitB "bool" "tuple" = some false := by decide +kernel
theorem ki_nt : kitB "NoneType" "tuple" = some false := by decide +kernel
theorem ki_st : kitB "str" "tuple" = some false := by decide +kernel
theorem ki_lt : kitB "list" "tuple" = some false := by decide +kernel
theorem ki_tt : kitB "tuple" "tuple" = some true := by decide +kernel
theorem ki_dt : kitB "dict" "tuple" = some false := by decide +kernel
theorem isI (d : PyData) : ∃ b, kitB (tyD d) "int" = some b ∧ (b = true ↔ (∃ i, d = .int i) ∨ ∃ b, d = .bool b) := by
  cases d <;> simp only [tyD, ki_ii, ki_bi, ki_ni, ki_si, ki_li, ki_ti, ki_di, Option.some.injEq] <;> exact ⟨_, rfl, by simp⟩
theorem isT (d : PyData) : ∃ b, kitB (tyD d) "tuple" = some b ∧ (b = true ↔ ∃ ds, d = .tuple ds) := by
  cases d <;> simp only [tyD, ki_it, ki_bt, ki_nt, ki_st, ki_lt, ki_tt, ki_dt, Option.some.injEq] <;> exact ⟨_, rfl, by simp⟩
theorem atI_in {α : Type} {xs : List α} {i : Int} {k : Nat} {x : α} (hi : i = (k : Int)) (hx : xs[k]? = some x) : atI xs i = some x := by
  obtain ⟨hk, _⟩ := List.getElem?_eq_some_iff.mp hx
  subst hi
  unfold atI ixN
  have h1 : (0 : Int) ≤ (k : Int) := by omega
  have h2 : (k : Int) < (xs.length : Int) := by omega
  rw [if_pos h1, if_pos h2]
  simpa using hx
theorem ixN_in {n k : Nat} (h : k < n) : ixN n (k : Int) = some k := by
  unfold ixN
  have h1 : (0 : Int) ≤ (k : Int) := by omega
  have h2 : (k : Int) < (n : Int) := by omega
  rw [if_pos h1, if_pos h2]; simp
theorem l_eqNil {M : Mem} : ∀ xs : List PyData, lift2 dEq M (.dat (.list xs)) (.dat (.list [])) = some (.dat (.bool xs.isEmpty))
  | [] => by
    have h : (SeqAt.shaped (PyData.list []) && SeqAt.shaped (PyData.list [])) = true := by decide
    simp only [lift2, dEq, h, if_true, Option.bind_some]
    rfl
  | x :: t => by
    have h1 : PyData.eqv (.list (x :: t)) (.list []) = false := by simp [PyData.eqv, PyData.eqvAll]
    simp only [lift2, dEq]
    split
    · simp [h1]
    · simp [lenNe]
theorem l_neg : lift1 dNeg M (.dat (.int i)) = some (.dat (.int (-i))) := rfl
end
end Sm

/-! SmW: more steps, for a way that goes by itself. -/
namespace Sm
open PySem L2
section
variable {ρ : Rho} {M M1 M2 M3 : Mem} {x y z : SV} {a b c : SE}
theorem eVar_eq {i : Nat} (h : ρ[i]? = some (some x)) : eVar i ρ M = some (x, M) := by
  simp only [eVar, h]
theorem eC_eq {d : PyData} : eC d ρ M = some (.dat d, M) := rfl
theorem eC_e {d : PyData} (h : SV.dat d = x) : eC d ρ M = some (x, M) := by rw [← h]; rfl
theorem eD0_eq : eD0 ρ M = some (.dat (.dict []), M) := rfl
theorem eD1_eq {k : Str} {d : PyData} (h : a ρ M = some (.dat d, M1)) : eD1 k a ρ M = some (.dat (.dict [(.str k, d)]), M1) := by
  simp only [eD1, h, Option.bind_some]
theorem oNone_eq : oNone ρ M = some (none, M) := rfl
theorem oSome_eq {i : Int} (h : a ρ M = some (.dat (.int i), M1)) : oSome a ρ M = some (some i, M1) := by
  simp only [oSome, h, Option.bind_some]
theorem eSl_eq {f : Mem → SV → Option Int → Option Int → Option SV} {l u : SO} {lo hi : Option Int} (h1 : a ρ M = some (x, M1)) (h2 : l ρ M1 = some (lo, M2)) (h3 : u ρ M2 = some (hi, M3)) (h4 : f M3 x lo hi = some z) : eSl f a l u ρ M = some (z, M3) := by
  simp only [eSl, h1, h2, h3, h4, Option.bind_some]
theorem ble_le {n m : Nat} (h : Nat.ble n m = true) : n ≤ m := Nat.le_of_ble_eq_true h
theorem eTup_e {as : SA} {xs : List SV} {ds : List PyData} (h1 : as ρ M = some (xs, M1)) (h2 : dats xs = some ds) (h3 : Nat.ble ds.length 100000 = true) : eTup as ρ M = some (.dat (.tuple ds), M1) := eTup_eq h1 h2 (ble_le h3)
theorem eLst_e {as : SA} {xs : List SV} {ds : List PyData} (h1 : as ρ M = some (xs, M1)) (h2 : dats xs = some ds) (h3 : Nat.ble ds.length 100000 = true) : eLst as ρ M = some (.dat (.list ds), M1) := eLst_eq h1 h2 (ble_le h3)
theorem ite_T {α : Type} {v : Bool} {p q r : α} (h : v = true) (h2 : p = r) : (if v = true then p else q) = r := by rw [if_pos h]; exact h2
theorem ite_F {α : Type} {v : Bool} {p q r : α} (h : v = false) (h2 : q = r) : (if v = true then p else q) = r := by rw [if_neg (by rw [h]; exact Bool.false_ne_true)]; exact h2
theorem bVal_e {v : Bool} (h1 : a ρ M = some (x, M1)) (h2 : x = .dat (.bool v)) : bVal a ρ M = some (v, M1) := by
  subst h2; exact bVal_eq h1
theorem bOr_e {t u : SB} {v : Bool} {r : Option (Bool × Mem)} (h1 : t ρ M = some (v, M1)) (h2 : (if v = true then some (true, M1) else u ρ M1) = r) : bOr t u ρ M = r := by
  simp only [bOr, h1, Option.bind_some]; exact h2
theorem bAnd_e {t u : SB} {v : Bool} {r : Option (Bool × Mem)} (h1 : t ρ M = some (v, M1)) (h2 : (if v = true then u ρ M1 else some (false, M1)) = r) : bAnd t u ρ M = r := by
  simp only [bAnd, h1, Option.bind_some]; exact h2
theorem or_gen {v w : Bool} {s : Option (Bool × Mem)} (h : s = some (w, M1)) : (if v = true then some (true, M1) else s) = some (v || w, M1) := by
  cases v with
  | true => simp
  | false => simp [h]
theorem and_gen {v w : Bool} {s : Option (Bool × Mem)} (h : s = some (w, M1)) : (if v = true then s else some (false, M1)) = some (v && w, M1) := by
  cases v with
  | false => simp
  | true => simp [h]
theorem eOr_e {v : Bool} {r : Option (SV × Mem)} (h1 : a ρ M = some (.dat (.bool v), M1)) (h2 : (if v = true then some (.dat (.bool true), M1) else b ρ M1) = r) : eOr a b ρ M = r := by
  simp only [eOr, h1, Option.bind_some]; exact h2
theorem eAnd_e {v : Bool} {r : Option (SV × Mem)} (h1 : a ρ M = some (.dat (.bool v), M1)) (h2 : (if v = true then b ρ M1 else some (.dat (.bool false), M1)) = r) : eAnd a b ρ M = r := by
  simp only [eAnd, h1, Option.bind_some]; exact h2
theorem eor_gen {v w : Bool} {s : Option (SV × Mem)} (h : s = some (.dat (.bool w), M1)) : (if v = true then some (.dat (.bool true), M1) else s) = some (.dat (.bool (v || w)), M1) := by
  cases v with
  | true => simp
  | false => simp [h]
theorem eand_gen {v w : Bool} {s : Option (SV × Mem)} (h : s = some (.dat (.bool w), M1)) : (if v = true then s else some (.dat (.bool false), M1)) = some (.dat (.bool (v && w)), M1) := by
  cases v with
  | false => simp
  | true => simp [h]
theorem eIf_e {t : SB} {v : Bool} {r : Option (SV × Mem)} (h1 : t ρ M = some (v, M1)) (h2 : (if v = true then a ρ M1 else b ρ M1) = r) : eIf t a b ρ M = r := by
  simp only [eIf, h1, Option.bind_some]; exact h2
theorem sIf_e {t : SB} {v : Bool} {s u : SS} {r : Option Ctl} (h1 : t ρ M = some (v, M1)) (h2 : (if v = true then s ρ M1 else u ρ M1) = r) : sIf t s u ρ M = r := by
  simp only [sIf, h1, Option.bind_some]; exact h2
theorem bTru_b {v : Bool} (h1 : a ρ M = some (.dat (.bool v), M1)) : bTru a ρ M = some (v, M1) := by
  simp only [bTru, h1, Option.bind_some]
theorem eChain_e {f f' : Mem → SV → SV → Option SV} {w : SV} {k k' : Bool} (h1 : a ρ M = some (x, M1)) (h2 : b ρ M1 = some (y, M2)) (h3 : f M2 x y = some (.dat (.bool k))) (h4 : c ρ M2 = some (w, M2)) (h5 : f' M2 y w = some (.dat (.bool k'))) : eChain f f' a b c ρ M = some (.dat (.bool (k && k')), M2) := by
  cases k <;> simp [eChain, h1, h2, h3, h4, h5]
theorem eChain3_e {f f' f'' : Mem → SV → SV → Option SV} {e : SE} {w u : SV} {k k' k'' : Bool} (h1 : a ρ M = some (x, M1)) (h2 : b ρ M1 = some (y, M2)) (h3 : f M2 x y = some (.dat (.bool k))) (h4 : c ρ M2 = some (w, M2)) (h5 : f' M2 y w = some (.dat (.bool k'))) (h6 : e ρ M2 = some (u, M2)) (h7 : f'' M2 w u = some (.dat (.bool k''))) :
    eChain3 f f' f'' a b c e ρ M = some (.dat (.bool (k && (k' && k''))), M2) := by
  cases k <;> cases k' <;> simp [eChain3, h1, h2, h3, h4, h5, h6, h7]
def seqK (c : Ctl) (u : SS) : Option Ctl := match c with
  | .nx ρ' M' => u ρ' M'
  | c => some c
theorem sSeq_e {s u : SS} {k : Ctl} {r : Option Ctl} (h1 : s ρ M = some k) (h2 : seqK k u = r) : sSeq s u ρ M = r := by
  simp only [sSeq, h1, Option.bind_some]; exact h2
theorem seqK_nx {u : SS} {r : Option Ctl} (h : u ρ M = r) : seqK (.nx ρ M) u = r := h
theorem seqK_rt {u : SS} {v : SV} : seqK (.rt v M) u = some (.rt v M) := rfl
theorem sNext_eq : sNext ρ M = some (.nx ρ M) := rfl
theorem gNm_eq {i : Nat} : gNm i x ρ M = some (ρ.set i (some x), M) := rfl
theorem gTp_eq {is : List Nat} {ds : List PyData} (h : (ds.length == is.length) = true) : gTp is (.dat (.tuple ds)) ρ M = some (setAll is ds ρ, M) := by
  have : ds.length = is.length := eq_of_beq h
  simp only [gTp, this, if_true]
theorem gNm_e {i : Nat} {ρ' : Rho} (h : ρ.set i (some x) = ρ') : gNm i x ρ M = some (ρ', M) := by rw [← h]; rfl
theorem gTp_e {is : List Nat} {ds : List PyData} {ρ' : Rho} (h : (ds.length == is.length) = true) (h2 : setAll is ds ρ = ρ') : gTp is (.dat (.tuple ds)) ρ M = some (ρ', M) := by
  rw [← h2]; exact gTp_eq h
theorem one_eq {f : Mem → SV → Option SV} (h : f M x = some z) : one f M [x] = some z := h
theorem l_ixL {ds : List PyData} {i : Int} {d : PyData} (h : atI ds i = some d) : fIx M (.dat (.list ds)) (.dat (.int i)) = some (.dat d) := by
  simp only [fIx, h, Option.bind_some]
theorem l_ixT {ds : List PyData} {i : Int} {d : PyData} (h : atI ds i = some d) : fIx M (.dat (.tuple ds)) (.dat (.int i)) = some (.dat d) := by
  simp only [fIx, h, Option.bind_some]
theorem l_slL {ds : List PyData} {lo hi : Option Int} : fSl M (.dat (.list ds)) lo hi = some (.dat (.list (cutD ds lo hi))) := rfl
theorem l_slT {ds : List PyData} {lo hi : Option Int} : fSl M (.dat (.tuple ds)) lo hi = some (.dat (.tuple (cutD ds lo hi))) := rfl
theorem l_lenL {ds : List PyData} : fLen M (.dat (.list ds)) = some (.dat (.int (ds.length : Int))) := rfl
theorem l_lenT {ds : List PyData} : fLen M (.dat (.tuple ds)) = some (.dat (.int (ds.length : Int))) := rfl
theorem l_addT {xs ys : List PyData} (h : Nat.ble (xs.length + ys.length) 100000 = true) : lift2 dAdd M (.dat (.tuple xs)) (.dat (.tuple ys)) = some (.dat (.tuple (xs ++ ys))) := by
  simp only [lift2, dAdd, ble_le h, if_true, Option.bind_some]
theorem l_addL {xs ys : List PyData} (h : Nat.ble (xs.length + ys.length) 100000 = true) : lift2 dAdd M (.dat (.list xs)) (.dat (.list ys)) = some (.dat (.list (xs ++ ys))) := by
  simp only [lift2, dAdd, ble_le h, if_true, Option.bind_some]
theorem mkF_e {n : Nat} {s : SS} {args : List SV} {d : PyData} (h : s (args.map some ++ List.replicate (n - args.length) none) M = some (.rt (.dat d) M1)) (hl : M1.length = M.length) : mkF n s args M = some (.dat d, M1) := mkF_rtL hl h
theorem mkF_c {n : Nat} {s : SS} {args : List SV} {i : Nat} (h : s (args.map some ++ List.replicate (n - args.length) none) M = some (.rt (.cel i) M1)) : mkF n s args M = some (.cel i, M1) := by
  simp only [mkF, h, Option.bind_some, fin]
theorem pi_true {x : SV} (h : x = .dat (.bool true)) : x = .dat (.bool true) := h
theorem it_tt {T : String} {ds : List PyData} {b : Bool} (h : kitB "tuple" T = some b) : fIsi T M (.dat (.tuple ds)) = some (.dat (.bool b)) := l_isi h
theorem l_neSS {x : Str} : lift2 dNe M (.dat (.str x)) (.dat (.str x)) = some (.dat (.bool false)) := by
  rw [l_neS, beq_self_eq_true]; rfl
theorem l_eqSS {x : Str} : lift2 dEq M (.dat (.str x)) (.dat (.str x)) = some (.dat (.bool true)) := by
  rw [l_eqS, beq_self_eq_true]
theorem l_neBS {v : Bool} : lift2 dNe M (.dat (.bool v)) (.dat (.bool v)) = some (.dat (.bool false)) := by cases v <;> rfl
theorem l_eqBS {v : Bool} : lift2 dEq M (.dat (.bool v)) (.dat (.bool v)) = some (.dat (.bool true)) := by cases v <;> rfl
theorem l_neB {v w : Bool} : lift2 dNe M (.dat (.bool v)) (.dat (.bool w)) = some (.dat (.bool (!(v == w)))) := by cases v <;> cases w <;> rfl
theorem l_eqB {v w : Bool} : lift2 dEq M (.dat (.bool v)) (.dat (.bool w)) = some (.dat (.bool (v == w))) := by cases v <;> cases w <;> rfl
theorem sIx0 (n d : Nat) : HT.sIx n d none = d := rfl
theorem cut_take (ds : List PyData) (n : Nat) : cutD ds none (some (n : Int)) = ds.take n := by
  unfold cutD
  rw [sIx0, HT.sIx_nat, List.drop_zero, Nat.sub_zero]
  by_cases h : n ≤ ds.length
  · rw [Nat.min_eq_left h]
  · rw [Nat.min_eq_right (by omega), List.take_of_length_le (Nat.le_refl _), List.take_of_length_le (by omega)]
theorem cut_drop (ds : List PyData) (n : Nat) : cutD ds (some (n : Int)) none = ds.drop n := by
  unfold cutD
  rw [sIx0, HT.sIx_nat]
  by_cases h : n ≤ ds.length
  · rw [Nat.min_eq_left h, List.take_of_length_le (by rw [List.length_drop]; exact Nat.le_refl _)]
  · rw [Nat.min_eq_right (by omega), List.drop_of_length_le (Nat.le_refl _), List.drop_of_length_le (by omega)]
    simp
/-! kinds -/
def kInt : PyData → Bool
  | .int _ => true
  | .bool _ => true
  | _ => false
def kBool : PyData → Bool
  | .bool _ => true
  | _ => false
def kTup : PyData → Bool
  | .tuple _ => true
  | _ => false
def kNum : PyData → Bool
  | .int _ => true
  | _ => false
theorem ki_nb : kitB "NoneType" "bool" = some false := by decide +kernel
theorem ki_sb : kitB "str" "bool" = some false := by decide +kernel
theorem ki_lb : kitB "list" "bool" = some false := by decide +kernel
theorem ki_tb : kitB "tuple" "bool" = some false := by decide +kernel
theorem ki_db : kitB "dict" "bool" = some false := by decide +kernel
theorem isi_int (d : PyData) : fIsi "int" M (.dat d) = some (.dat (.bool (kInt d))) := by
  cases d <;> simp only [fIsi, lift1, tyD, ki_ii, ki_bi, ki_ni, ki_si, ki_li, ki_ti, ki_di, Option.bind_some, kInt]
theorem isi_bool (d : PyData) : fIsi "bool" M (.dat d) = some (.dat (.bool (kBool d))) := by
  cases d <;> simp only [fIsi, lift1, tyD, ki_ib, ki_bb, ki_nb, ki_sb, ki_lb, ki_tb, ki_db, Option.bind_some, kBool]
theorem isi_tup (d : PyData) : fIsi "tuple" M (.dat d) = some (.dat (.bool (kTup d))) := by
  cases d <;> simp only [fIsi, lift1, tyD, ki_it, ki_bt, ki_nt, ki_st, ki_lt, ki_tt, ki_dt, Option.bind_some, kTup]
theorem knum (d : PyData) : (kInt d && !kBool d) = kNum d := by cases d <;> rfl
end
end Sm

namespace Lk09
open PySem PySem.Spec PyProof.Rows L2 Sm
/-! ### the text -/
def topS (i : Nat) : Stmt := PySem.Challenge.pw_toldpieces_k09_shapes_judged.main.body.getD i (.Pass ⟨0, 0, 0, 0⟩)
abbrev s_is_number : Stmt := topS 2
abbrev N_is_number : List Str := ["thing"]
theorem sc_is_number : FnScope N_is_number ["thing"] (defScope s_is_number) := ⟨rfl, rfl, rfl, by decide +kernel, rfl, by decide +kernel, by decide +kernel⟩
abbrev s_is_prime : Stmt := topS 3
abbrev N_is_prime : List Str := ["thing"]
theorem sc_is_prime : FnScope N_is_prime ["thing"] (defScope s_is_prime) := ⟨rfl, rfl, rfl, by decide +kernel, rfl, by decide +kernel, by decide +kernel⟩
abbrev s_is_shape : Stmt := topS 6
abbrev N_is_shape : List Str := ["thing", "p", "k", "d", "dice_rows", "part"]
theorem sc_is_shape : FnScope N_is_shape ["thing"] (defScope s_is_shape) := ⟨rfl, rfl, rfl, by decide +kernel, rfl, by decide +kernel, by decide +kernel⟩
abbrev s_xdeck : Stmt := topS 8
abbrev N_xdeck : List Str := ["_law_script", "_law_cell"]
theorem sc_xdeck : FnScope N_xdeck ["_law_script"] (defScope s_xdeck) := ⟨rfl, rfl, rfl, by decide +kernel, rfl, by decide +kernel, by decide +kernel⟩
abbrev s_xdraw : Stmt := topS 9
abbrev N_xdraw : List Str := ["_law_deck_here", "_law_many", "_law_cell", "_law_place"]
theorem sc_xdraw : FnScope N_xdraw ["_law_deck_here", "_law_many"] (defScope s_xdraw) := ⟨rfl, rfl, rfl, by decide +kernel, rfl, by decide +kernel, by decide +kernel⟩
abbrev s_xwhole : Stmt := topS 10
abbrev N_xwhole : List Str := ["_law_thing"]
theorem sc_xwhole : FnScope N_xwhole ["_law_thing"] (defScope s_xwhole) := ⟨rfl, rfl, rfl, by decide +kernel, rfl, by decide +kernel, by decide +kernel⟩
abbrev s_xprime : Stmt := topS 11
abbrev N_xprime : List Str := ["_law_deck_here"]
theorem sc_xprime : FnScope N_xprime ["_law_deck_here"] (defScope s_xprime) := ⟨rfl, rfl, rfl, by decide +kernel, rfl, by decide +kernel, by decide +kernel⟩
abbrev s_xshape : Stmt := topS 12
abbrev N_xshape : List Str := ["_law_deck_here", "_law_p", "_law_d", "_law_k"]
theorem sc_xshape : FnScope N_xshape ["_law_deck_here"] (defScope s_xshape) := ⟨rfl, rfl, rfl, by decide +kernel, rfl, by decide +kernel, by decide +kernel⟩
abbrev s_xis_prime : Stmt := topS 13
abbrev N_xis_prime : List Str := ["_law_thing", "_law_k"]
theorem sc_xis_prime : FnScope N_xis_prime ["_law_thing"] (defScope s_xis_prime) := ⟨rfl, rfl, rfl, by decide +kernel, rfl, by decide +kernel, by decide +kernel⟩
abbrev s_xodd : Stmt := topS 14
abbrev N_xodd : List Str := ["_law_deck_here", "_law_p", "_law_some"]
theorem sc_xodd : FnScope N_xodd ["_law_deck_here", "_law_p"] (defScope s_xodd) := ⟨rfl, rfl, rfl, by decide +kernel, rfl, by decide +kernel, by decide +kernel⟩
abbrev s_xdue : Stmt := topS 15
abbrev N_xdue : List Str := ["_law_thing", "_law_p", "_law_k", "_law_d", "_law_l"]
theorem sc_xdue : FnScope N_xdue ["_law_thing"] (defScope s_xdue) := ⟨rfl, rfl, rfl, by decide +kernel, rfl, by decide +kernel, by decide +kernel⟩
abbrev s_xspoilt : Stmt := topS 16
abbrev N_xspoilt : List Str := ["_law_deck_here", "_law_shape_here", "_law_p", "_law_k", "_law_d", "_law_l", "_law_at", "_law_some", "_law_other", "_law_way"]
theorem sc_xspoilt : FnScope N_xspoilt ["_law_deck_here", "_law_shape_here"] (defScope s_xspoilt) := ⟨rfl, rfl, rfl, by decide +kernel, rfl, by decide +kernel, by decide +kernel⟩
abbrev s_law : Stmt := topS 17
abbrev N_law : List Str := ["_law_script", "_law_deck_here", "_law_turn", "_law_shape_here", "_law_thing", "_law_twice", "_law_one", "_law_was", "_law_got"]
theorem sc_law : FnScope N_law ["_law_script"] (defScope s_law) := ⟨rfl, rfl, rfl, by decide +kernel, rfl, by decide +kernel, by decide +kernel⟩
/-! ### the plain functions -/
def k_PRIMES : PyData := (.tuple [(.int 11), (.int 13), (.int 17), (.int 19), (.int 23), (.int 29), (.int 31), (.int 37), (.int 41), (.int 43), (.int 47), (.int 53), (.int 59), (.int 61), (.int 67), (.int 71), (.int 73), (.int 79), (.int 83), (.int 89), (.int 97), (.int 101), (.int 103), (.int 107), (.int 109), (.int 113), (.int 127), (.int 131), (.int 137), (.int 139), (.int 149), (.int 151), (.int 157), (.int 163), (.int 167), (.int 173), (.int 179), (.int 181), (.int 191), (.int 193), (.int 197), (.int 199), (.int 211)])
def k_MOST_COLUMNS : PyData := (.int 5)
abbrev B_is_number : SS :=
  (sRet (eAnd (eUn (fIsi "int") (eVar 0)) (eNot (eUn (fIsi "bool") (eVar 0)))))
def F_is_number : SF := mkF 1 B_is_number
abbrev B_is_prime : SS :=
  (sRet (eAnd (eCall F_is_number (aCons (eVar 0) aNil)) (eOp (fIn false) (eVar 0) (eC k_PRIMES))))
def F_is_prime : SF := mkF 1 B_is_prime
abbrev B_is_shape_1 : SS :=
  (sIf (bOr (bNot (bVal (eUn (fIsi "tuple") (eVar 0)))) (bVal (eOp (lift2 dNe) (eCB (one fLen) (aCons (eVar 0) aNil)) (eC (.int 4))))) (sRet (eC (.bool false))) sNext)
abbrev B_is_shape_2 : SS :=
  (sIf (bNot (bVal (eCB (one (lift1 dAll)) (aCons (eLc (iDat (eVar 0)) (gNm 5) bYes (eCall F_is_number (aCons (eVar 5) aNil)) [5]) aNil)))) (sRet (eC (.bool false))) sNext)
abbrev B_is_shape_3 : SS :=
  (sAsg (eVar 0) (gTp [1, 2, 3, 4]))
abbrev B_is_shape_4 : SS :=
  (sRet (eAnd (eCall F_is_prime (aCons (eVar 1) aNil)) (eAnd (eChain (lift2 dLe) (lift2 dLe) (eC (.int 1)) (eVar 3) (eC k_MOST_COLUMNS)) (eAnd (eChain (lift2 dLe) (lift2 dLe) (eC (.int 1)) (eVar 2) (eVar 3)) (eChain (lift2 dLe) (lift2 dLt) (eC (.int 0)) (eVar 4) (eVar 2))))))
abbrev B_is_shape : SS :=
  (sSeq B_is_shape_1
    (sSeq B_is_shape_2
    (sSeq B_is_shape_3
    B_is_shape_4)))
def F_is_shape : SF := mkF 6 B_is_shape
abbrev B_xdeck : SS :=
  (sRet (eNew (aCons (eLcN (iDat (eSl fSl (eVar 0) oNone (oSome (eC (.int 63))))) (gNm 1) bYes (eCB (one (lift1 dAbs)) (aCons (eVar 1) aNil)) [1]) (aCons (eC (.int 0)) aNil))))
def F_xdeck : SF := mkF 2 B_xdeck
abbrev B_xdraw_1 : SS :=
  (sAsg (eOp (lift2 dAdd) (eOp fIx (eVar 0) (eC (.int 1))) (eC (.int 1))) (gStore (eVar 0) (eC (.int 1))))
abbrev B_xdraw_2 : SS :=
  (sAsg (eC (.int 0)) (gNm 2))
abbrev B_xdraw_3 : SS :=
  (sAsg (eUn (lift1 dNeg) (eC (.int 1))) (gNm 3))
abbrev B_xdraw_4 : SS :=
  (sIf (bVal (eOp (lift2 dGt) (eCB (one fLen) (aCons (eOp fIx (eVar 0) (eC (.int 0))) aNil)) (eC (.int 0)))) (sSeq (sAsg (eOp (lift2 dMod) (eOp fIx (eVar 0) (eC (.int 1))) (eCB (one fLen) (aCons (eOp fIx (eVar 0) (eC (.int 0))) aNil))) (gNm 3))
    (sAsg (eOp fIx (eOp fIx (eVar 0) (eC (.int 0))) (eVar 3)) (gNm 2))) sNext)
abbrev B_xdraw_5 : SS :=
  (sIf (bVal (eOp (lift2 dGe) (eVar 2) (eOp (lift2 dPow) (eC (.int 10)) (eC (.int 18))))) (sSeq (sAsg (eOp (lift2 dDiv) (eVar 2) (eVar 1)) (gStore (eOp fIx (eVar 0) (eC (.int 0))) (eVar 3)))
    (sRet (eOp (lift2 dMod) (eVar 2) (eVar 1)))) sNext)
abbrev B_xdraw_6 : SS :=
  (sRet (eOp (lift2 dMod) (eOp (lift2 dDiv) (eOp (lift2 dMod) (eOp (lift2 dPow) (eOp (lift2 dAdd) (eOp (lift2 dAdd) (eOp (lift2 dMod) (eVar 2) (eC (.int 2147483587))) (eOp (lift2 dMul) (eC (.int 7919)) (eOp fIx (eVar 0) (eC (.int 1))))) (eC (.int 1))) (eC (.int 5))) (eC (.int 2147483647))) (eC (.int 7))) (eVar 1)))
abbrev B_xdraw : SS :=
  (sSeq B_xdraw_1
    (sSeq B_xdraw_2
    (sSeq B_xdraw_3
    (sSeq B_xdraw_4
    (sSeq B_xdraw_5
    B_xdraw_6)))))
def F_xdraw : SF := mkF 4 B_xdraw
abbrev B_xwhole : SS :=
  (sRet (eAnd (eUn (fIsi "int") (eVar 0)) (eNot (eUn (fIsi "bool") (eVar 0)))))
def F_xwhole : SF := mkF 1 B_xwhole
abbrev B_xprime : SS :=
  (sRet (eOp fIx (eLst (aCons (eC (.int 11)) (aCons (eC (.int 13)) (aCons (eC (.int 17)) (aCons (eC (.int 19)) (aCons (eC (.int 23)) (aCons (eC (.int 101)) (aCons (eC (.int 199)) (aCons (eC (.int 211)) aNil))))))))) (eCall F_xdraw (aCons (eVar 0) (aCons (eC (.int 8)) aNil)))))
def F_xprime : SF := mkF 1 B_xprime
abbrev B_xshape_1 : SS :=
  (sAsg (eCall F_xprime (aCons (eVar 0) aNil)) (gNm 1))
abbrev B_xshape_2 : SS :=
  (sAsg (eOp (lift2 dAdd) (eC (.int 1)) (eCall F_xdraw (aCons (eVar 0) (aCons (eC (.int 5)) aNil)))) (gNm 2))
abbrev B_xshape_3 : SS :=
  (sAsg (eOp (lift2 dAdd) (eC (.int 1)) (eCall F_xdraw (aCons (eVar 0) (aCons (eVar 2) aNil)))) (gNm 3))
abbrev B_xshape_4 : SS :=
  (sRet (eTup (aCons (eVar 1) (aCons (eVar 3) (aCons (eVar 2) (aCons (eCall F_xdraw (aCons (eVar 0) (aCons (eVar 3) aNil))) aNil))))))
abbrev B_xshape : SS :=
  (sSeq B_xshape_1
    (sSeq B_xshape_2
    (sSeq B_xshape_3
    B_xshape_4)))
def F_xshape : SF := mkF 4 B_xshape
abbrev B_xis_prime_1 : SS :=
  (sIf (bOr (bNot (bVal (eCall F_xwhole (aCons (eVar 0) aNil)))) (bNot (bVal (eChain (lift2 dLe) (lift2 dLe) (eC (.int 11)) (eVar 0) (eC (.int 211)))))) (sRet (eC (.bool false))) sNext)
abbrev B_xis_prime_2 : SS :=
  (sRet (eOp (lift2 dEq) (eLc (iR2 (aCons (eC (.int 2)) (aCons (eC (.int 16)) aNil))) (gNm 1) (bAnd (bVal (eOp (lift2 dNe) (eVar 0) (eVar 1))) (bVal (eOp (lift2 dEq) (eOp (lift2 dMod) (eVar 0) (eVar 1)) (eC (.int 0))))) (eVar 1) [1]) (eLst aNil)))
abbrev B_xis_prime : SS :=
  (sSeq B_xis_prime_1
    B_xis_prime_2)
def F_xis_prime : SF := mkF 2 B_xis_prime
abbrev B_xodd_1 : SS :=
  (sAsg (eLst (aCons (eC .none) (aCons (eC (.bool true)) (aCons (eC (.bool false)) (aCons (eUn (lift1 dNeg) (eC (.int 1))) (aCons (eVar 1) (aCons (eC (.int 0)) (aCons (eC (.int 1)) (aCons (eOp (lift2 dPow) (eC (.int 10)) (eC (.int 29))) (aCons (eC (.str (Str.ofString ""))) (aCons (eC (.str (Str.ofString "1"))) (aCons (eTup aNil) (aCons (eTup (aCons (eC (.int 0)) aNil)) (aCons (eLst aNil) (aCons (eLst (aCons (eC (.int 0)) aNil)) (aCons eD0 (aCons (eD1 (Str.ofString "a") (eC (.int 1))) (aCons (eOp (lift2 dSub) (eVar 1) (eC (.int 1))) (aCons (eTup (aCons (eTup (aCons (eC (.int 0)) aNil)) aNil)) aNil))))))))))))))))))) (gNm 2))
abbrev B_xodd_2 : SS :=
  (sRet (eOp fIx (eVar 2) (eCall F_xdraw (aCons (eVar 0) (aCons (eC (.int 18)) aNil)))))
abbrev B_xodd : SS :=
  (sSeq B_xodd_1
    B_xodd_2)
def F_xodd : SF := mkF 3 B_xodd
abbrev B_xdue_1 : SS :=
  (sIf (bOr (bNot (bVal (eUn (fIsi "tuple") (eVar 0)))) (bOr (bVal (eOp (lift2 dNe) (eCB (one fLen) (aCons (eVar 0) aNil)) (eC (.int 4)))) (bNot (bVal (eCall F_xis_prime (aCons (eOp fIx (eVar 0) (eC (.int 0))) aNil)))))) (sRet (eC (.bool false))) sNext)
abbrev B_xdue_2 : SS :=
  (sAsg (eVar 0) (gTp [1, 2, 3, 4]))
abbrev B_xdue_3 : SS :=
  (sIf (bOr (bNot (bVal (eCall F_xwhole (aCons (eVar 3) aNil)))) (bOr (bNot (bVal (eCall F_xwhole (aCons (eVar 2) aNil)))) (bNot (bVal (eCall F_xwhole (aCons (eVar 4) aNil)))))) (sRet (eC (.bool false))) sNext)
abbrev B_xdue_4 : SS :=
  (sRet (eAnd (eChain3 (lift2 dLe) (lift2 dLe) (lift2 dLe) (eC (.int 1)) (eVar 2) (eVar 3) (eC (.int 5))) (eChain (lift2 dLe) (lift2 dLt) (eC (.int 0)) (eVar 4) (eVar 2))))
abbrev B_xdue : SS :=
  (sSeq B_xdue_1
    (sSeq B_xdue_2
    (sSeq B_xdue_3
    B_xdue_4)))
def F_xdue : SF := mkF 5 B_xdue
abbrev B_xspoilt_1 : SS :=
  (sAsg (eVar 1) (gTp [2, 3, 4, 5]))
abbrev B_xspoilt_2 : SS :=
  (sAsg (eCall F_xdraw (aCons (eVar 0) (aCons (eC (.int 4)) aNil))) (gNm 6))
abbrev B_xspoilt_3 : SS :=
  (sAsg (eLst (aCons (eUn (lift1 dNeg) (eC (.int 1))) (aCons (eC (.int 0)) (aCons (eC (.int 1)) (aCons (eC (.int 5)) (aCons (eC (.int 6)) (aCons (eVar 4) (aCons (eOp (lift2 dAdd) (eVar 4) (eC (.int 1))) (aCons (eVar 3) (aCons (eOp (lift2 dSub) (eVar 3) (eC (.int 1))) (aCons (eOp (lift2 dAdd) (eVar 3) (eC (.int 1))) (aCons (eC (.int 9)) (aCons (eC (.int 7)) (aCons (eC (.int 211)) (aCons (eC (.int 223)) (aCons (eC (.int 121)) (aCons (eC (.int 15)) (aCons (eC (.int 2)) (aCons (eC (.bool true)) (aCons (eC (.bool false)) (aCons (eC .none) (aCons (eC (.str (Str.ofString "1"))) (aCons (eTup (aCons (eC (.int 1)) aNil)) aNil))))))))))))))))))))))) (gNm 7))
abbrev B_xspoilt_4 : SS :=
  (sAsg (eOp fIx (eVar 7) (eCall F_xdraw (aCons (eVar 0) (aCons (eC (.int 22)) aNil)))) (gNm 8))
abbrev B_xspoilt_5 : SS :=
  (sAsg (eCall F_xdraw (aCons (eVar 0) (aCons (eC (.int 9)) aNil))) (gNm 9))
abbrev B_xspoilt_6 : SS :=
  (sIf (bVal (eOp (lift2 dEq) (eVar 9) (eC (.int 0)))) (sRet (eOp fIx (eLst (aCons (eOp (lift2 dAdd) (eVar 1) (eTup (aCons (eC (.int 0)) aNil))) (aCons (eSl fSl (eVar 1) oNone (oSome (eC (.int 3)))) (aCons (eUn (lift1 dRev) (eVar 1)) (aCons (eCB (one fList) (aCons (eVar 1) aNil)) (aCons (eTup (aCons (eVar 1) aNil)) aNil)))))) (eCall F_xdraw (aCons (eVar 0) (aCons (eC (.int 5)) aNil))))) sNext)
abbrev B_xspoilt_7 : SS :=
  (sIf (bVal (eOp (lift2 dEq) (eVar 9) (eC (.int 1)))) (sRet (eCall F_xodd (aCons (eVar 0) (aCons (eVar 2) aNil)))) sNext)
abbrev B_xspoilt_8 : SS :=
  (sIf (bVal (eOp (lift2 dEq) (eVar 9) (eC (.int 2)))) (sRet (eOp (lift2 dAdd) (eOp (lift2 dAdd) (eSl fSl (eVar 1) oNone (oSome (eVar 6))) (eTup (aCons (eCall F_xodd (aCons (eVar 0) (aCons (eVar 2) aNil))) aNil))) (eSl fSl (eVar 1) (oSome (eOp (lift2 dAdd) (eVar 6) (eC (.int 1)))) oNone))) sNext)
abbrev B_xspoilt_9 : SS :=
  (sRet (eOp (lift2 dAdd) (eOp (lift2 dAdd) (eSl fSl (eVar 1) oNone (oSome (eVar 6))) (eTup (aCons (eVar 8) aNil))) (eSl fSl (eVar 1) (oSome (eOp (lift2 dAdd) (eVar 6) (eC (.int 1)))) oNone)))
abbrev B_xspoilt : SS :=
  (sSeq B_xspoilt_1
    (sSeq B_xspoilt_2
    (sSeq B_xspoilt_3
    (sSeq B_xspoilt_4
    (sSeq B_xspoilt_5
    (sSeq B_xspoilt_6
    (sSeq B_xspoilt_7
    (sSeq B_xspoilt_8
    B_xspoilt_9))))))))
def F_xspoilt : SF := mkF 10 B_xspoilt
abbrev B_law_1 : SS :=
  (sAsg (eCall F_xdeck (aCons (eVar 0) aNil)) (gNm 1))
abbrev B_law_2 : SS :=
  (sFor (iR1 (aCons (eC (.int 12)) aNil)) (gNm 2) (sSeq (sAsg (eCall F_xshape (aCons (eVar 1) aNil)) (gNm 3))
    (sSeq (sAsg (eCall F_xspoilt (aCons (eVar 1) (aCons (eVar 3) aNil))) (gNm 4))
    (sSeq (sAsg (eVar 4) (gNm 5))
    (sSeq (sIf (bAnd (bVal (eUn (fIsi "tuple") (eVar 4))) (bVal (eOp (lift2 dEq) (eCB (one fLen) (aCons (eVar 4) aNil)) (eC (.int 4))))) (sAsg (eIf (bVal (eCall F_xdue (aCons (eVar 4) aNil))) (eCall F_xspoilt (aCons (eVar 1) (aCons (eVar 4) aNil))) (eOp (lift2 dAdd) (eSl fSl (eVar 4) oNone (oSome (eC (.int 1)))) (eSl fSl (eVar 3) (oSome (eC (.int 1))) oNone))) (gNm 5)) sNext)
    (sFor (iDat (eLst (aCons (eVar 3) (aCons (eVar 4) (aCons (eVar 5) (aCons (eTup (aCons (eC (.int 211)) (aCons (eC (.int 5)) (aCons (eC (.int 5)) (aCons (eC (.int 4)) aNil))))) (aCons (eTup (aCons (eC (.int 11)) (aCons (eC (.int 1)) (aCons (eC (.int 1)) (aCons (eC (.int 0)) aNil))))) (aCons (eTup (aCons (eC (.int 212)) (aCons (eC (.int 1)) (aCons (eC (.int 1)) (aCons (eC (.int 0)) aNil))))) (aCons (eTup (aCons (eC (.int 11)) (aCons (eC (.int 5)) (aCons (eC (.int 5)) (aCons (eC (.int 5)) aNil))))) aNil))))))))) (gNm 6) (sSeq (sAsg (eCB (one (lift1 dRepr)) (aCons (eVar 6) aNil)) (gNm 7))
    (sSeq (sAsg (eCall F_is_shape (aCons (eVar 6) aNil)) (gNm 8))
    (sIf (bOr (bNot (bVal (eUn (fIsi "bool") (eVar 8)))) (bOr (bVal (eOp (lift2 dNe) (eVar 8) (eCall F_xdue (aCons (eVar 6) aNil)))) (bVal (eOp (lift2 dNe) (eCB (one (lift1 dRepr)) (aCons (eVar 6) aNil)) (eVar 7))))) (sRet (eC (.bool false))) sNext)))))))))
abbrev B_law_3 : SS :=
  (sRet (eC (.bool true)))
abbrev B_law : SS :=
  (sSeq B_law_1
    (sSeq B_law_2
    B_law_3))
def F_law : SF := mkF 9 B_law
/-! ### what the top has left -/
structure Txt (K : PySem.W.Frag) (mg : Str → Option Value) : Type where
  a_is_number : Addr
  fd_is_number : FuncData
  u_is_number : Fun K "is_number" "is_number" s_is_number a_is_number fd_is_number
  g_is_number : mg "is_number" = some (.ref a_is_number)
  b_is_number : Binds K fd_is_number ["thing"] []
  a_is_prime : Addr
  fd_is_prime : FuncData
  u_is_prime : Fun K "is_prime" "is_prime" s_is_prime a_is_prime fd_is_prime
  g_is_prime : mg "is_prime" = some (.ref a_is_prime)
  b_is_prime : Binds K fd_is_prime ["thing"] []
  a_is_shape : Addr
  fd_is_shape : FuncData
  u_is_shape : Fun K "is_shape" "is_shape" s_is_shape a_is_shape fd_is_shape
  g_is_shape : mg "is_shape" = some (.ref a_is_shape)
  b_is_shape : Binds K fd_is_shape ["thing"] []
  a_xdeck : Addr
  fd_xdeck : FuncData
  u_xdeck : Fun K "_law_deck" "_law_deck" s_xdeck a_xdeck fd_xdeck
  g_xdeck : mg "_law_deck" = some (.ref a_xdeck)
  b_xdeck : Binds K fd_xdeck ["_law_script"] []
  a_xdraw : Addr
  fd_xdraw : FuncData
  u_xdraw : Fun K "_law_draw" "_law_draw" s_xdraw a_xdraw fd_xdraw
  g_xdraw : mg "_law_draw" = some (.ref a_xdraw)
  b_xdraw : Binds K fd_xdraw ["_law_deck_here", "_law_many"] []
  a_xwhole : Addr
  fd_xwhole : FuncData
  u_xwhole : Fun K "_law_whole" "_law_whole" s_xwhole a_xwhole fd_xwhole
  g_xwhole : mg "_law_whole" = some (.ref a_xwhole)
  b_xwhole : Binds K fd_xwhole ["_law_thing"] []
  a_xprime : Addr
  fd_xprime : FuncData
  u_xprime : Fun K "_law_prime" "_law_prime" s_xprime a_xprime fd_xprime
  g_xprime : mg "_law_prime" = some (.ref a_xprime)
  b_xprime : Binds K fd_xprime ["_law_deck_here"] []
  a_xshape : Addr
  fd_xshape : FuncData
  u_xshape : Fun K "_law_shape" "_law_shape" s_xshape a_xshape fd_xshape
  g_xshape : mg "_law_shape" = some (.ref a_xshape)
  b_xshape : Binds K fd_xshape ["_law_deck_here"] []
  a_xis_prime : Addr
  fd_xis_prime : FuncData
  u_xis_prime : Fun K "_law_is_prime" "_law_is_prime" s_xis_prime a_xis_prime fd_xis_prime
  g_xis_prime : mg "_law_is_prime" = some (.ref a_xis_prime)
  b_xis_prime : Binds K fd_xis_prime ["_law_thing"] []
  a_xodd : Addr
  fd_xodd : FuncData
  u_xodd : Fun K "_law_odd" "_law_odd" s_xodd a_xodd fd_xodd
  g_xodd : mg "_law_odd" = some (.ref a_xodd)
  b_xodd : Binds K fd_xodd ["_law_deck_here", "_law_p"] []
  a_xdue : Addr
  fd_xdue : FuncData
  u_xdue : Fun K "_law_due" "_law_due" s_xdue a_xdue fd_xdue
  g_xdue : mg "_law_due" = some (.ref a_xdue)
  b_xdue : Binds K fd_xdue ["_law_thing"] []
  a_xspoilt : Addr
  fd_xspoilt : FuncData
  u_xspoilt : Fun K "_law_spoilt" "_law_spoilt" s_xspoilt a_xspoilt fd_xspoilt
  g_xspoilt : mg "_law_spoilt" = some (.ref a_xspoilt)
  b_xspoilt : Binds K fd_xspoilt ["_law_deck_here", "_law_shape_here"] []
  a_law : Addr
  fd_law : FuncData
  u_law : Fun K "law" "law" s_law a_law fd_law
  g_law : mg "law" = some (.ref a_law)
  b_law : Binds K fd_law ["_law_script"] []
  m_abs : mg "abs" = none
  m_all : mg "all" = none
  m_bool : mg "bool" = none
  m_int : mg "int" = none
  m_isinstance : mg "isinstance" = none
  m_len : mg "len" = none
  m_list : mg "list" = none
  m_range : mg "range" = none
  m_repr : mg "repr" = none
  m_tuple : mg "tuple" = none
  v_PRIMES : V
  w_PRIMES : Value
  g_PRIMES : mg "PRIMES" = some w_PRIMES
  r_PRIMES : RelV v_PRIMES w_PRIMES
  d_PRIMES : ∀ G, Dq K G v_PRIMES k_PRIMES
  v_MOST_COLUMNS : V
  w_MOST_COLUMNS : Value
  g_MOST_COLUMNS : mg "MOST_COLUMNS" = some w_MOST_COLUMNS
  r_MOST_COLUMNS : RelV v_MOST_COLUMNS w_MOST_COLUMNS
  d_MOST_COLUMNS : ∀ G, Dq K G v_MOST_COLUMNS k_MOST_COLUMNS
section
variable {P : Program} {w : World} {K : PySem.W.Frag} {mg : Str → Option Value} {base : Heap}
theorem ok_is_number (T : Txt K mg) : FnG P w K mg base 1 T.a_is_number T.fd_is_number ["thing"] (spF K 1 F_is_number) :=
  fn_okG (k := 0) (body := B_is_number) (N := N_is_number)
  (et_ret (ev_and (ev_isi ev_var) (ev_not (ev_isi ev_var))))
  T.u_is_number sc_is_number (fun cd A out s H hr hgu =>
  (pss_one (ps_ret (pe_and (pe_isi rfl T.m_isinstance rfl T.m_int (by decide +kernel) (pv 0)) (pe_one (pe_not (pe_isi rfl T.m_isinstance rfl T.m_bool (by decide +kernel) (pv 0))))))))
theorem ok_is_prime (T : Txt K mg) : FnG P w K mg base 2 T.a_is_prime T.fd_is_prime ["thing"] (spF K 1 F_is_prime) :=
  fn_okG (k := 1) (body := B_is_prime) (N := N_is_prime)
  (et_ret (ev_and (ev_call (ea_cons ev_var ea_nil) (na_cons na_nil)) (ev_op ev_var (ev_glob T.d_PRIMES) os_in)))
  T.u_is_prime sc_is_prime (fun cd A out s H hr hgu =>
  (pss_one (ps_ret (pe_and (pe_callG (ok_is_number T) (hr.mono (by decide)) hgu rfl T.g_is_number T.u_is_number.kp T.b_is_number (pa_cons (pv 0) pa_nil)) (pe_one (pe_cmpR op_in_seq (pv 0) (pe_glob rfl T.g_PRIMES T.r_PRIMES) rfl))))))
theorem ok_is_shape (T : Txt K mg) : FnG P w K mg base 3 T.a_is_shape T.fd_is_shape ["thing"] (spF K 1 F_is_shape) :=
  fn_okG (k := 2) (body := B_is_shape) (N := N_is_shape)
  (et_seq (et_if (eb_or (eb_not (eb_B (ev_isi ev_var))) (eb_test (ev_op (ev_cb (ea_cons ev_var ea_nil) (cs_one us_len)) ev_int os_ne))) (et_ret ev_bl) et_next)
    (et_seq (et_if (eb_not (eb_B (ev_cb (ea_cons (ev_lc (ei_sq ev_var) eg_name (gw_name (by decide)) eb_yes (ev_call (ea_cons ev_var ea_nil) (na_cons na_nil))) ea_nil) (cs_one us_all)))) (et_ret ev_bl) et_next)
    (et_seq (et_asg ev_var (eg_tup (is := [1, 2, 3, 4]) rfl))
    (et_ret (ev_and (ev_call (ea_cons ev_var ea_nil) (na_cons na_nil)) (ev_and (ev_chain ev_int ev_var (ev_glob T.d_MOST_COLUMNS) os_le os_le) (ev_and (ev_chain ev_int ev_var ev_var os_le os_le) (ev_chain ev_int ev_var ev_var os_le os_lt))))))))
  T.u_is_shape sc_is_shape (fun cd A out s H hr hgu =>
  (pss_cons (ps_if (PW.pt (pw_or (pt_not (pt_val (pe_isi rfl T.m_isinstance rfl T.m_tuple (by decide +kernel) (pv 0)))) (pw_or1 (pt_cmpR (op_neA (room64 hr)) (pe_callB call_len1 rfl T.m_len (by decide +kernel) (pa_cons (pv 0) pa_nil)) pe_int rfl)))) (pss_one (ps_ret pe_bl)) pss_nil)
    (pss_cons (ps_if (pt_not (pt_val (pe_callB (call_all1 rfl) rfl T.m_all (by decide +kernel) (pa_cons (pe_lc (own := [("part", 5)]) rfl sc_is_shape.nd (pi_sq (pv 0)) (blkOk_by (N := N_is_shape) (sc := defScope s_is_shape) (by decide +kernel)) (fun _ _ _ _ _ => (pg_name (i := 5) sc_is_shape.nd rfl (Or.inl rfl))) (fun _ _ _ _ _ => pts_nil) (fun _ _ _ _ _ => (pe_callG (ok_is_number T) (hr.mono (by decide)) hgu rfl T.g_is_number T.u_is_number.kp T.b_is_number (pa_cons (pv 5) pa_nil)))) pa_nil)))) (pss_one (ps_ret pe_bl)) pss_nil)
    (pss_cons (ps_asg (pv 0) (pg_tup rfl (pgs_cons (pg_name (i := 1) sc_is_shape.nd rfl (Or.inl rfl)) (pgs_cons (pg_name (i := 2) sc_is_shape.nd rfl (Or.inl rfl)) (pgs_cons (pg_name (i := 3) sc_is_shape.nd rfl (Or.inl rfl)) (pgs_cons (pg_name (i := 4) sc_is_shape.nd rfl (Or.inl rfl)) pgs_nil))))))
    (pss_one (ps_ret (pe_and (pe_callG (ok_is_prime T) (hr.mono (by decide)) hgu rfl T.g_is_prime T.u_is_prime.kp T.b_is_prime (pa_cons (pv 1) pa_nil)) (pe_and (pe_chain op_le op_le pe_int (pv 3) (pe_glob rfl T.g_MOST_COLUMNS T.r_MOST_COLUMNS)) (pe_and (pe_chain op_le op_le pe_int (pv 2) (pv 3)) (pe_one (pe_chain op_le op_lt pe_int (pv 4) (pv 2))))))))))))
theorem ok_xdeck (T : Txt K mg) : FnG P w K mg base 1 T.a_xdeck T.fd_xdeck ["_law_script"] (spF K 1 F_xdeck) :=
  fn_okG (k := 0) (body := B_xdeck) (N := N_xdeck)
  (et_ret (ev_new (ea_cons (ev_lcN (ei_sq (ev_sl ev_var ev_oNone (ev_oSome ev_int) ss_sl)) eg_name (gw_name (by decide)) eb_yes (ev_cb (ea_cons ev_var ea_nil) (cs_one us_abs))) (ea_cons ev_int ea_nil))))
  T.u_xdeck sc_xdeck (fun cd A out s H hr hgu =>
  (pss_one (ps_ret (pe_lst (pa_cons (pe_lc (own := [("_law_cell", 1)]) rfl sc_xdeck.nd (pi_sq (pe_slice sl_seq (pv 0) po_none (po_some pe_int))) (blkOk_by (N := N_xdeck) (sc := defScope s_xdeck) (by decide +kernel)) (fun _ _ _ _ _ => (pg_name (i := 1) sc_xdeck.nd rfl (Or.inl rfl))) (fun _ _ _ _ _ => pts_nil) (fun _ _ _ _ _ => (pe_callB call_abs1 rfl T.m_abs (by decide +kernel) (pa_cons (pv 1) pa_nil)))) (pa_cons pe_int pa_nil))))))
theorem ok_xdraw (T : Txt K mg) : FnG P w K mg base 1 T.a_xdraw T.fd_xdraw ["_law_deck_here", "_law_many"] (spF K 2 F_xdraw) :=
  fn_okG (k := 0) (body := B_xdraw) (N := N_xdraw)
  (et_seq (et_asg (ev_op (ev_op ev_var ev_int os_ix) ev_int os_add) (eg_store ev_var ev_int))
    (et_seq (et_asg ev_int eg_name)
    (et_seq (et_asg (ev_un ev_int us_neg) eg_name)
    (et_seq (et_if (eb_test (ev_op (ev_cb (ea_cons (ev_op ev_var ev_int os_ix) ea_nil) (cs_one us_len)) ev_int os_gt)) (et_seq (et_asg (ev_op (ev_op ev_var ev_int os_ix) (ev_cb (ea_cons (ev_op ev_var ev_int os_ix) ea_nil) (cs_one us_len)) os_mod) eg_name)
    (et_asg (ev_op (ev_op ev_var ev_int os_ix) ev_var os_ix) eg_name)) et_next)
    (et_seq (et_if (eb_test (ev_op ev_var (ev_op ev_int ev_int os_pow) os_ge)) (et_seq (et_asg (ev_op ev_var ev_var os_div) (eg_store (ev_op ev_var ev_int os_ix) ev_var))
    (et_ret (ev_op ev_var ev_var os_mod))) et_next)
    (et_ret (ev_op (ev_op (ev_op (ev_op (ev_op (ev_op (ev_op ev_var ev_int os_mod) (ev_op ev_int (ev_op ev_var ev_int os_ix) os_mul) os_add) ev_int os_add) ev_int os_pow) ev_int os_mod) ev_int os_div) ev_var os_mod)))))))
  T.u_xdraw sc_xdraw (fun cd A out s H hr hgu =>
  (pss_cons (ps_asg (pe_op op_addA (pe_ix ix_seq (pv 0) pe_int (fun _ _ => rfl)) pe_int) (pg_sub (pv 0) pe_int set_list))
    (pss_cons (ps_set (i := 2) sc_xdraw.nd rfl (Or.inl rfl) pe_int)
    (pss_cons (ps_set (i := 3) sc_xdraw.nd rfl (Or.inl rfl) (pe_un un_neg pe_int))
    (pss_cons (ps_if (pt_cmpR op_gt (pe_callB call_len1 rfl T.m_len (by decide +kernel) (pa_cons (pe_ix ix_seq (pv 0) pe_int (fun _ _ => rfl)) pa_nil)) pe_int rfl) (pss_cons (ps_set (i := 3) sc_xdraw.nd rfl (Or.inl rfl) (pe_op op_mod (pe_ix ix_seq (pv 0) pe_int (fun _ _ => rfl)) (pe_callB call_len1 rfl T.m_len (by decide +kernel) (pa_cons (pe_ix ix_seq (pv 0) pe_int (fun _ _ => rfl)) pa_nil))))
    (pss_one (ps_set (i := 2) sc_xdraw.nd rfl (Or.inl rfl) (pe_ix ix_seq (pe_ix ix_seq (pv 0) pe_int (fun _ _ => rfl)) (pv 3) (fun _ _ => rfl))))) pss_nil)
    (pss_cons (ps_if (pt_cmpR op_ge (pv 2) (pe_op op_pow pe_int pe_int) rfl) (pss_cons (ps_asg (pe_op op_fdivW (pv 2) (pv 1)) (pg_sub (pe_ix ix_seq (pv 0) pe_int (fun _ _ => rfl)) (pv 3) set_list))
    (pss_one (ps_ret (pe_op op_mod (pv 2) (pv 1))))) pss_nil)
    (pss_one (ps_ret (pe_op op_mod (pe_op op_fdivW (pe_op op_mod (pe_op op_pow (pe_op op_addA (pe_op op_addA (pe_op op_mod (pv 2) pe_int) (pe_op op_mulA pe_int (pe_ix ix_seq (pv 0) pe_int (fun _ _ => rfl)))) pe_int) pe_int) pe_int) pe_int) (pv 1))))))))))
theorem ok_xwhole (T : Txt K mg) : FnG P w K mg base 1 T.a_xwhole T.fd_xwhole ["_law_thing"] (spF K 1 F_xwhole) :=
  fn_okG (k := 0) (body := B_xwhole) (N := N_xwhole)
  (et_ret (ev_and (ev_isi ev_var) (ev_not (ev_isi ev_var))))
  T.u_xwhole sc_xwhole (fun cd A out s H hr hgu =>
  (pss_one (ps_ret (pe_and (pe_isi rfl T.m_isinstance rfl T.m_int (by decide +kernel) (pv 0)) (pe_one (pe_not (pe_isi rfl T.m_isinstance rfl T.m_bool (by decide +kernel) (pv 0))))))))
theorem ok_xprime (T : Txt K mg) : FnG P w K mg base 2 T.a_xprime T.fd_xprime ["_law_deck_here"] (spF K 1 F_xprime) :=
  fn_okG (k := 1) (body := B_xprime) (N := N_xprime)
  (et_ret (ev_op (ev_lst (ea_cons ev_int (ea_cons ev_int (ea_cons ev_int (ea_cons ev_int (ea_cons ev_int (ea_cons ev_int (ea_cons ev_int (ea_cons ev_int ea_nil))))))))) (ev_call (ea_cons ev_var (ea_cons ev_int ea_nil)) (na_cons (na_cons na_nil))) os_ix))
  T.u_xprime sc_xprime (fun cd A out s H hr hgu =>
  (pss_one (ps_ret (pe_ix ix_seq (pe_lst (pa_cons pe_int (pa_cons pe_int (pa_cons pe_int (pa_cons pe_int (pa_cons pe_int (pa_cons pe_int (pa_cons pe_int (pa_cons pe_int pa_nil))))))))) (pe_callG (ok_xdraw T) (hr.mono (by decide)) hgu rfl T.g_xdraw T.u_xdraw.kp T.b_xdraw (pa_cons (pv 0) (pa_cons pe_int pa_nil))) (fun _ _ => rfl)))))
theorem ok_xshape (T : Txt K mg) : FnG P w K mg base 3 T.a_xshape T.fd_xshape ["_law_deck_here"] (spF K 1 F_xshape) :=
  fn_okG (k := 2) (body := B_xshape) (N := N_xshape)
  (et_seq (et_asg (ev_call (ea_cons ev_var ea_nil) (na_cons na_nil)) eg_name)
    (et_seq (et_asg (ev_op ev_int (ev_call (ea_cons ev_var (ea_cons ev_int ea_nil)) (na_cons (na_cons na_nil))) os_add) eg_name)
    (et_seq (et_asg (ev_op ev_int (ev_call (ea_cons ev_var (ea_cons ev_var ea_nil)) (na_cons (na_cons na_nil))) os_add) eg_name)
    (et_ret (ev_tup (ea_cons ev_var (ea_cons ev_var (ea_cons ev_var (ea_cons (ev_call (ea_cons ev_var (ea_cons ev_var ea_nil)) (na_cons (na_cons na_nil))) ea_nil)))))))))
  T.u_xshape sc_xshape (fun cd A out s H hr hgu =>
  (pss_cons (ps_set (i := 1) sc_xshape.nd rfl (Or.inl rfl) (pe_callG (ok_xprime T) (hr.mono (by decide)) hgu rfl T.g_xprime T.u_xprime.kp T.b_xprime (pa_cons (pv 0) pa_nil)))
    (pss_cons (ps_set (i := 2) sc_xshape.nd rfl (Or.inl rfl) (pe_op op_addA pe_int (pe_callG (ok_xdraw T) (hr.mono (by decide)) hgu rfl T.g_xdraw T.u_xdraw.kp T.b_xdraw (pa_cons (pv 0) (pa_cons pe_int pa_nil)))))
    (pss_cons (ps_set (i := 3) sc_xshape.nd rfl (Or.inl rfl) (pe_op op_addA pe_int (pe_callG (ok_xdraw T) (hr.mono (by decide)) hgu rfl T.g_xdraw T.u_xdraw.kp T.b_xdraw (pa_cons (pv 0) (pa_cons (pv 2) pa_nil)))))
    (pss_one (ps_ret (pe_tup (pa_cons (pv 1) (pa_cons (pv 3) (pa_cons (pv 2) (pa_cons (pe_callG (ok_xdraw T) (hr.mono (by decide)) hgu rfl T.g_xdraw T.u_xdraw.kp T.b_xdraw (pa_cons (pv 0) (pa_cons (pv 3) pa_nil))) pa_nil)))))))))))
theorem ok_xis_prime (T : Txt K mg) : FnG P w K mg base 2 T.a_xis_prime T.fd_xis_prime ["_law_thing"] (spF K 1 F_xis_prime) :=
  fn_okG (k := 1) (body := B_xis_prime) (N := N_xis_prime)
  (et_seq (et_if (eb_or (eb_not (eb_B (ev_call (ea_cons ev_var ea_nil) (na_cons na_nil)))) (eb_not (eb_test (ev_chain ev_int ev_var ev_int os_le os_le)))) (et_ret ev_bl) et_next)
    (et_ret (ev_op (ev_lc (ei_r2 (ea_cons ev_int (ea_cons ev_int ea_nil))) eg_name (gw_name (by decide)) (eb_and (eb_test (ev_op ev_var ev_var os_ne)) (eb_test (ev_op (ev_op ev_var ev_var os_mod) ev_int os_eq))) ev_var) (ev_lst ea_nil) os_eq)))
  T.u_xis_prime sc_xis_prime (fun cd A out s H hr hgu =>
  (pss_cons (ps_if (PW.pt (pw_or (pt_not (pt_val (pe_callG (ok_xwhole T) (hr.mono (by decide)) hgu rfl T.g_xwhole T.u_xwhole.kp T.b_xwhole (pa_cons (pv 0) pa_nil)))) (pw_or1 (pt_not (pt_chain op_le op_le pe_int (pv 0) pe_int))))) (pss_one (ps_ret pe_bl)) pss_nil)
    (pss_one (ps_ret (pe_cmpR (op_eqA (room64 hr)) (pe_lc (own := [("_law_k", 1)]) rfl sc_xis_prime.nd (pi_range2 rfl T.m_range (pa_cons pe_int (pa_cons pe_int pa_nil))) (blkOk_by (N := N_xis_prime) (sc := defScope s_xis_prime) (by decide +kernel)) (fun _ _ _ _ _ => (pg_name (i := 1) sc_xis_prime.nd rfl (Or.inl rfl))) (fun _ _ _ _ _ => (pts_one (PW.pt (pw_and (pt_cmpR (op_neA (room64 hr)) (pv 0) (pv 1) rfl) (pw_and1 (pt_cmpR (op_eqA (room64 hr)) (pe_op op_mod (pv 0) (pv 1)) pe_int rfl)))))) (fun _ _ _ _ _ => (pv 1))) (pe_lst pa_nil) rfl)))))
theorem ok_xodd (T : Txt K mg) : FnG P w K mg base 2 T.a_xodd T.fd_xodd ["_law_deck_here", "_law_p"] (spF K 2 F_xodd) :=
  fn_okG (k := 1) (body := B_xodd) (N := N_xodd)
  (et_seq (et_asg (ev_lst (ea_cons ev_non (ea_cons ev_bl (ea_cons ev_bl (ea_cons (ev_un ev_int us_neg) (ea_cons ev_var (ea_cons ev_int (ea_cons ev_int (ea_cons (ev_op ev_int ev_int os_pow) (ea_cons ev_str (ea_cons ev_str (ea_cons (ev_tup ea_nil) (ea_cons (ev_tup (ea_cons ev_int ea_nil)) (ea_cons (ev_lst ea_nil) (ea_cons (ev_lst (ea_cons ev_int ea_nil)) (ea_cons ev_d0 (ea_cons (ev_d1 ev_int) (ea_cons (ev_op ev_var ev_int os_sub) (ea_cons (ev_tup (ea_cons (ev_tup (ea_cons ev_int ea_nil)) ea_nil)) ea_nil))))))))))))))))))) eg_name)
    (et_ret (ev_op ev_var (ev_call (ea_cons ev_var (ea_cons ev_int ea_nil)) (na_cons (na_cons na_nil))) os_ix)))
  T.u_xodd sc_xodd (fun cd A out s H hr hgu =>
  (pss_cons (ps_set (i := 2) sc_xodd.nd rfl (Or.inl rfl) (pe_lst (pa_cons pe_non (pa_cons pe_bl (pa_cons pe_bl (pa_cons (pe_un un_neg pe_int) (pa_cons (pv 1) (pa_cons pe_int (pa_cons pe_int (pa_cons (pe_op op_pow pe_int pe_int) (pa_cons pe_str (pa_cons pe_str (pa_cons (pe_tup pa_nil) (pa_cons (pe_tup (pa_cons pe_int pa_nil)) (pa_cons (pe_lst pa_nil) (pa_cons (pe_lst (pa_cons pe_int pa_nil)) (pa_cons pe_dnewK (pa_cons (pe_disp (pps_cons pe_str pe_int pps_nil) rfl rfl (by decide) (by decide)) (pa_cons (pe_op op_sub (pv 1) pe_int) (pa_cons (pe_tup (pa_cons (pe_tup (pa_cons pe_int pa_nil)) pa_nil)) pa_nil))))))))))))))))))))
    (pss_one (ps_ret (pe_ix ix_seq (pv 2) (pe_callG (ok_xdraw T) (hr.mono (by decide)) hgu rfl T.g_xdraw T.u_xdraw.kp T.b_xdraw (pa_cons (pv 0) (pa_cons pe_int pa_nil))) (fun _ _ => rfl))))))
theorem ok_xdue (T : Txt K mg) : FnG P w K mg base 3 T.a_xdue T.fd_xdue ["_law_thing"] (spF K 1 F_xdue) :=
  fn_okG (k := 2) (body := B_xdue) (N := N_xdue)
  (et_seq (et_if (eb_or (eb_not (eb_B (ev_isi ev_var))) (eb_or (eb_test (ev_op (ev_cb (ea_cons ev_var ea_nil) (cs_one us_len)) ev_int os_ne)) (eb_not (eb_B (ev_call (ea_cons (ev_op ev_var ev_int os_ix) ea_nil) (na_cons na_nil)))))) (et_ret ev_bl) et_next)
    (et_seq (et_asg ev_var (eg_tup (is := [1, 2, 3, 4]) rfl))
    (et_seq (et_if (eb_or (eb_not (eb_B (ev_call (ea_cons ev_var ea_nil) (na_cons na_nil)))) (eb_or (eb_not (eb_B (ev_call (ea_cons ev_var ea_nil) (na_cons na_nil)))) (eb_not (eb_B (ev_call (ea_cons ev_var ea_nil) (na_cons na_nil)))))) (et_ret ev_bl) et_next)
    (et_ret (ev_and (ev_chain3 ev_int ev_var ev_var ev_int os_le os_le os_le) (ev_chain ev_int ev_var ev_var os_le os_lt))))))
  T.u_xdue sc_xdue (fun cd A out s H hr hgu =>
  (pss_cons (ps_if (PW.pt (pw_or (pt_not (pt_val (pe_isi rfl T.m_isinstance rfl T.m_tuple (by decide +kernel) (pv 0)))) (pw_or (pt_cmpR (op_neA (room64 hr)) (pe_callB call_len1 rfl T.m_len (by decide +kernel) (pa_cons (pv 0) pa_nil)) pe_int rfl) (pw_or1 (pt_not (pt_val (pe_callG (ok_xis_prime T) (hr.mono (by decide)) hgu rfl T.g_xis_prime T.u_xis_prime.kp T.b_xis_prime (pa_cons (pe_ix ix_seq (pv 0) pe_int (fun _ _ => rfl)) pa_nil)))))))) (pss_one (ps_ret pe_bl)) pss_nil)
    (pss_cons (ps_asg (pv 0) (pg_tup rfl (pgs_cons (pg_name (i := 1) sc_xdue.nd rfl (Or.inl rfl)) (pgs_cons (pg_name (i := 2) sc_xdue.nd rfl (Or.inl rfl)) (pgs_cons (pg_name (i := 3) sc_xdue.nd rfl (Or.inl rfl)) (pgs_cons (pg_name (i := 4) sc_xdue.nd rfl (Or.inl rfl)) pgs_nil))))))
    (pss_cons (ps_if (PW.pt (pw_or (pt_not (pt_val (pe_callG (ok_xwhole T) (hr.mono (by decide)) hgu rfl T.g_xwhole T.u_xwhole.kp T.b_xwhole (pa_cons (pv 3) pa_nil)))) (pw_or (pt_not (pt_val (pe_callG (ok_xwhole T) (hr.mono (by decide)) hgu rfl T.g_xwhole T.u_xwhole.kp T.b_xwhole (pa_cons (pv 2) pa_nil)))) (pw_or1 (pt_not (pt_val (pe_callG (ok_xwhole T) (hr.mono (by decide)) hgu rfl T.g_xwhole T.u_xwhole.kp T.b_xwhole (pa_cons (pv 4) pa_nil)))))))) (pss_one (ps_ret pe_bl)) pss_nil)
    (pss_one (ps_ret (pe_and (pe_chain3 op_le op_le op_le pe_int (pv 2) (pv 3) pe_int) (pe_one (pe_chain op_le op_lt pe_int (pv 4) (pv 2))))))))))
theorem ok_xspoilt (T : Txt K mg) : FnG P w K mg base 3 T.a_xspoilt T.fd_xspoilt ["_law_deck_here", "_law_shape_here"] (spF K 2 F_xspoilt) :=
  fn_okG (k := 2) (body := B_xspoilt) (N := N_xspoilt)
  (et_seq (et_asg ev_var (eg_tup (is := [2, 3, 4, 5]) rfl))
    (et_seq (et_asg (ev_call (ea_cons ev_var (ea_cons ev_int ea_nil)) (na_cons (na_cons na_nil))) eg_name)
    (et_seq (et_asg (ev_lst (ea_cons (ev_un ev_int us_neg) (ea_cons ev_int (ea_cons ev_int (ea_cons ev_int (ea_cons ev_int (ea_cons ev_var (ea_cons (ev_op ev_var ev_int os_add) (ea_cons ev_var (ea_cons (ev_op ev_var ev_int os_sub) (ea_cons (ev_op ev_var ev_int os_add) (ea_cons ev_int (ea_cons ev_int (ea_cons ev_int (ea_cons ev_int (ea_cons ev_int (ea_cons ev_int (ea_cons ev_int (ea_cons ev_bl (ea_cons ev_bl (ea_cons ev_non (ea_cons ev_str (ea_cons (ev_tup (ea_cons ev_int ea_nil)) ea_nil))))))))))))))))))))))) eg_name)
    (et_seq (et_asg (ev_op ev_var (ev_call (ea_cons ev_var (ea_cons ev_int ea_nil)) (na_cons (na_cons na_nil))) os_ix) eg_name)
    (et_seq (et_asg (ev_call (ea_cons ev_var (ea_cons ev_int ea_nil)) (na_cons (na_cons na_nil))) eg_name)
    (et_seq (et_if (eb_test (ev_op ev_var ev_int os_eq)) (et_ret (ev_op (ev_lst (ea_cons (ev_op ev_var (ev_tup (ea_cons ev_int ea_nil)) os_add) (ea_cons (ev_sl ev_var ev_oNone (ev_oSome ev_int) ss_sl) (ea_cons (ev_rev ev_var) (ea_cons (ev_cb (ea_cons ev_var ea_nil) (cs_one us_list)) (ea_cons (ev_tup (ea_cons ev_var ea_nil)) ea_nil)))))) (ev_call (ea_cons ev_var (ea_cons ev_int ea_nil)) (na_cons (na_cons na_nil))) os_ix)) et_next)
    (et_seq (et_if (eb_test (ev_op ev_var ev_int os_eq)) (et_ret (ev_call (ea_cons ev_var (ea_cons ev_var ea_nil)) (na_cons (na_cons na_nil)))) et_next)
    (et_seq (et_if (eb_test (ev_op ev_var ev_int os_eq)) (et_ret (ev_op (ev_op (ev_sl ev_var ev_oNone (ev_oSome ev_var) ss_sl) (ev_tup (ea_cons (ev_call (ea_cons ev_var (ea_cons ev_var ea_nil)) (na_cons (na_cons na_nil))) ea_nil)) os_add) (ev_sl ev_var (ev_oSome (ev_op ev_var ev_int os_add)) ev_oNone ss_sl) os_add)) et_next)
    (et_ret (ev_op (ev_op (ev_sl ev_var ev_oNone (ev_oSome ev_var) ss_sl) (ev_tup (ea_cons ev_var ea_nil)) os_add) (ev_sl ev_var (ev_oSome (ev_op ev_var ev_int os_add)) ev_oNone ss_sl) os_add))))))))))
  T.u_xspoilt sc_xspoilt (fun cd A out s H hr hgu =>
  (pss_cons (ps_asg (pv 1) (pg_tup rfl (pgs_cons (pg_name (i := 2) sc_xspoilt.nd rfl (Or.inl rfl)) (pgs_cons (pg_name (i := 3) sc_xspoilt.nd rfl (Or.inl rfl)) (pgs_cons (pg_name (i := 4) sc_xspoilt.nd rfl (Or.inl rfl)) (pgs_cons (pg_name (i := 5) sc_xspoilt.nd rfl (Or.inl rfl)) pgs_nil))))))
    (pss_cons (ps_set (i := 6) sc_xspoilt.nd rfl (Or.inl rfl) (pe_callG (ok_xdraw T) (hr.mono (by decide)) hgu rfl T.g_xdraw T.u_xdraw.kp T.b_xdraw (pa_cons (pv 0) (pa_cons pe_int pa_nil))))
    (pss_cons (ps_set (i := 7) sc_xspoilt.nd rfl (Or.inl rfl) (pe_lst (pa_cons (pe_un un_neg pe_int) (pa_cons pe_int (pa_cons pe_int (pa_cons pe_int (pa_cons pe_int (pa_cons (pv 4) (pa_cons (pe_op op_addA (pv 4) pe_int) (pa_cons (pv 3) (pa_cons (pe_op op_sub (pv 3) pe_int) (pa_cons (pe_op op_addA (pv 3) pe_int) (pa_cons pe_int (pa_cons pe_int (pa_cons pe_int (pa_cons pe_int (pa_cons pe_int (pa_cons pe_int (pa_cons pe_int (pa_cons pe_bl (pa_cons pe_bl (pa_cons pe_non (pa_cons pe_str (pa_cons (pe_tup (pa_cons pe_int pa_nil)) pa_nil))))))))))))))))))))))))
    (pss_cons (ps_set (i := 8) sc_xspoilt.nd rfl (Or.inl rfl) (pe_ix ix_seq (pv 7) (pe_callG (ok_xdraw T) (hr.mono (by decide)) hgu rfl T.g_xdraw T.u_xdraw.kp T.b_xdraw (pa_cons (pv 0) (pa_cons pe_int pa_nil))) (fun _ _ => rfl)))
    (pss_cons (ps_set (i := 9) sc_xspoilt.nd rfl (Or.inl rfl) (pe_callG (ok_xdraw T) (hr.mono (by decide)) hgu rfl T.g_xdraw T.u_xdraw.kp T.b_xdraw (pa_cons (pv 0) (pa_cons pe_int pa_nil))))
    (pss_cons (ps_if (pt_cmpR (op_eqA (room64 hr)) (pv 9) pe_int rfl) (pss_one (ps_ret (pe_ix ix_seq (pe_lst (pa_cons (pe_op op_addA (pv 1) (pe_tup (pa_cons pe_int pa_nil))) (pa_cons (pe_slice sl_seq (pv 1) po_none (po_some pe_int)) (pa_cons (pe_revA (pv 1)) (pa_cons (pe_callTy call_list1 rfl T.m_list (by decide +kernel) (pa_cons (pv 1) pa_nil)) (pa_cons (pe_tup (pa_cons (pv 1) pa_nil)) pa_nil)))))) (pe_callG (ok_xdraw T) (hr.mono (by decide)) hgu rfl T.g_xdraw T.u_xdraw.kp T.b_xdraw (pa_cons (pv 0) (pa_cons pe_int pa_nil))) (fun _ _ => rfl)))) pss_nil)
    (pss_cons (ps_if (pt_cmpR (op_eqA (room64 hr)) (pv 9) pe_int rfl) (pss_one (ps_ret (pe_callG (ok_xodd T) (hr.mono (by decide)) hgu rfl T.g_xodd T.u_xodd.kp T.b_xodd (pa_cons (pv 0) (pa_cons (pv 2) pa_nil))))) pss_nil)
    (pss_cons (ps_if (pt_cmpR (op_eqA (room64 hr)) (pv 9) pe_int rfl) (pss_one (ps_ret (pe_op op_addA (pe_op op_addA (pe_slice sl_seq (pv 1) po_none (po_some (pv 6))) (pe_tup (pa_cons (pe_callG (ok_xodd T) (hr.mono (by decide)) hgu rfl T.g_xodd T.u_xodd.kp T.b_xodd (pa_cons (pv 0) (pa_cons (pv 2) pa_nil))) pa_nil))) (pe_slice sl_seq (pv 1) (po_some (pe_op op_addA (pv 6) pe_int)) po_none)))) pss_nil)
    (pss_one (ps_ret (pe_op op_addA (pe_op op_addA (pe_slice sl_seq (pv 1) po_none (po_some (pv 6))) (pe_tup (pa_cons (pv 8) pa_nil))) (pe_slice sl_seq (pv 1) (po_some (pe_op op_addA (pv 6) pe_int)) po_none)))))))))))))
theorem ok_law (T : Txt K mg) : FnG P w K mg base 4 T.a_law T.fd_law ["_law_script"] (spF K 1 F_law) :=
  fn_okG (k := 3) (body := B_law) (N := N_law)
  (et_seq (et_asg (ev_call (ea_cons ev_var ea_nil) (na_cons na_nil)) eg_name)
    (et_seq (et_for (ei_r1 (ea_cons ev_int ea_nil)) eg_name (et_seq (et_asg (ev_call (ea_cons ev_var ea_nil) (na_cons na_nil)) eg_name)
    (et_seq (et_asg (ev_call (ea_cons ev_var (ea_cons ev_var ea_nil)) (na_cons (na_cons na_nil))) eg_name)
    (et_seq (et_asg ev_var eg_name)
    (et_seq (et_if (eb_and (eb_B (ev_isi ev_var)) (eb_test (ev_op (ev_cb (ea_cons ev_var ea_nil) (cs_one us_len)) ev_int os_eq))) (et_asg (ev_if (eb_B (ev_call (ea_cons ev_var ea_nil) (na_cons na_nil))) (ev_call (ea_cons ev_var (ea_cons ev_var ea_nil)) (na_cons (na_cons na_nil))) (ev_op (ev_sl ev_var ev_oNone (ev_oSome ev_int) ss_sl) (ev_sl ev_var (ev_oSome ev_int) ev_oNone ss_sl) os_add)) eg_name) et_next)
    (et_for (ei_sq (ev_lst (ea_cons ev_var (ea_cons ev_var (ea_cons ev_var (ea_cons (ev_tup (ea_cons ev_int (ea_cons ev_int (ea_cons ev_int (ea_cons ev_int ea_nil))))) (ea_cons (ev_tup (ea_cons ev_int (ea_cons ev_int (ea_cons ev_int (ea_cons ev_int ea_nil))))) (ea_cons (ev_tup (ea_cons ev_int (ea_cons ev_int (ea_cons ev_int (ea_cons ev_int ea_nil))))) (ea_cons (ev_tup (ea_cons ev_int (ea_cons ev_int (ea_cons ev_int (ea_cons ev_int ea_nil))))) ea_nil))))))))) eg_name (et_seq (et_asg (ev_cb (ea_cons ev_var ea_nil) (cs_one us_repr)) eg_name)
    (et_seq (et_asg (ev_call (ea_cons ev_var ea_nil) (na_cons na_nil)) eg_name)
    (et_if (eb_or (eb_not (eb_B (ev_isi ev_var))) (eb_or (eb_test (ev_op ev_var (ev_call (ea_cons ev_var ea_nil) (na_cons na_nil)) os_ne)) (eb_test (ev_op (ev_cb (ea_cons ev_var ea_nil) (cs_one us_repr)) ev_var os_ne)))) (et_ret ev_bl) et_next)))))))))
    (et_ret ev_bl)))
  T.u_law sc_law (fun cd A out s H hr hgu =>
  (pss_cons (ps_set (i := 1) sc_law.nd rfl (Or.inl rfl) (pe_callG (ok_xdeck T) (hr.mono (by decide)) hgu rfl T.g_xdeck T.u_xdeck.kp T.b_xdeck (pa_cons (pv 0) pa_nil)))
    (pss_cons (ps_for PassesOwn.never rfl (pi_range1 rfl T.m_range (pa_cons pe_int pa_nil)) (pg_name (i := 2) sc_law.nd rfl (Or.inl rfl)) (pss_cons (ps_set (i := 3) sc_law.nd rfl (Or.inl rfl) (pe_callG (ok_xshape T) (hr.mono (by decide)) hgu rfl T.g_xshape T.u_xshape.kp T.b_xshape (pa_cons (pv 1) pa_nil)))
    (pss_cons (ps_set (i := 4) sc_law.nd rfl (Or.inl rfl) (pe_callG (ok_xspoilt T) (hr.mono (by decide)) hgu rfl T.g_xspoilt T.u_xspoilt.kp T.b_xspoilt (pa_cons (pv 1) (pa_cons (pv 3) pa_nil))))
    (pss_cons (ps_set (i := 5) sc_law.nd rfl (Or.inl rfl) (pv 4))
    (pss_cons (ps_if (PW.pt (pw_and (pt_val (pe_isi rfl T.m_isinstance rfl T.m_tuple (by decide +kernel) (pv 4))) (pw_and1 (pt_cmpR (op_eqA (room64 hr)) (pe_callB call_len1 rfl T.m_len (by decide +kernel) (pa_cons (pv 4) pa_nil)) pe_int rfl)))) (pss_one (ps_set (i := 5) sc_law.nd rfl (Or.inl rfl) (pe_ifExp (pt_val (pe_callG (ok_xdue T) (hr.mono (by decide)) hgu rfl T.g_xdue T.u_xdue.kp T.b_xdue (pa_cons (pv 4) pa_nil))) (pe_callG (ok_xspoilt T) (hr.mono (by decide)) hgu rfl T.g_xspoilt T.u_xspoilt.kp T.b_xspoilt (pa_cons (pv 1) (pa_cons (pv 4) pa_nil))) (pe_op op_addA (pe_slice sl_seq (pv 4) po_none (po_some pe_int)) (pe_slice sl_seq (pv 3) (po_some pe_int) po_none))))) pss_nil)
    (pss_one (ps_for PassesOwn.never rfl (pi_sq (pe_lst (pa_cons (pv 3) (pa_cons (pv 4) (pa_cons (pv 5) (pa_cons (pe_tup (pa_cons pe_int (pa_cons pe_int (pa_cons pe_int (pa_cons pe_int pa_nil))))) (pa_cons (pe_tup (pa_cons pe_int (pa_cons pe_int (pa_cons pe_int (pa_cons pe_int pa_nil))))) (pa_cons (pe_tup (pa_cons pe_int (pa_cons pe_int (pa_cons pe_int (pa_cons pe_int pa_nil))))) (pa_cons (pe_tup (pa_cons pe_int (pa_cons pe_int (pa_cons pe_int (pa_cons pe_int pa_nil))))) pa_nil))))))))) (pg_name (i := 6) sc_law.nd rfl (Or.inl rfl)) (pss_cons (ps_set (i := 7) sc_law.nd rfl (Or.inl rfl) (pe_callB (call_repr1 hgu hr) rfl T.m_repr (by decide +kernel) (pa_cons (pv 6) pa_nil)))
    (pss_cons (ps_set (i := 8) sc_law.nd rfl (Or.inl rfl) (pe_callG (ok_is_shape T) (hr.mono (by decide)) hgu rfl T.g_is_shape T.u_is_shape.kp T.b_is_shape (pa_cons (pv 6) pa_nil)))
    (pss_one (ps_if (PW.pt (pw_or (pt_not (pt_val (pe_isi rfl T.m_isinstance rfl T.m_bool (by decide +kernel) (pv 8)))) (pw_or (pt_cmpR (op_neA (room64 hr)) (pv 8) (pe_callG (ok_xdue T) (hr.mono (by decide)) hgu rfl T.g_xdue T.u_xdue.kp T.b_xdue (pa_cons (pv 6) pa_nil)) rfl) (pw_or1 (pt_cmpR (op_neA (room64 hr)) (pe_callB (call_repr1 hgu hr) rfl T.m_repr (by decide +kernel) (pa_cons (pv 6) pa_nil)) (pv 7) rfl))))) (pss_one (ps_ret pe_bl)) pss_nil)))))))))))
    (pss_one (ps_ret pe_bl)))))
end
/-! ### the end -/
theorem all_mk {l : PySem.W.OpenLaw} {w : World} {K : PySem.W.Frag} {h : Heap} {mg : Str → Option Value} {fa : Addr} (X : K.In h) (G : h.Ns mainGlobals mg) (hfa : mg "law" = some (.ref fa))
    {f0 : Addr} {od0 an0 : Option Addr} {sl0 : Array (Option Value)} {oc0 kV0 dc0 pm0 cd0 ct0 : Value}
    (a0 : PySem.W.nsIn K mainGlobals "is_number" = some (some (.ref f0))) (l0 : K.lookup f0 = some ⟨oc0, od0, .func (PySem.W.fnOf "is_number" "is_number" (defArgs s_is_number) (defBody s_is_number) (defScope s_is_number) .none kV0 dc0 pm0 an0 cd0 ct0), sl0⟩) (c0 : PySem.W.codeIn K cd0 "is_number" = true) (k0 : PySem.W.keepIn K (.ref f0) = true)
{f1 : Addr} {od1 an1 : Option Addr} {sl1 : Array (Option Value)} {oc1 kV1 dc1 pm1 cd1 ct1 : Value}
    (a1 : PySem.W.nsIn K mainGlobals "is_prime" = some (some (.ref f1))) (l1 : K.lookup f1 = some ⟨oc1, od1, .func (PySem.W.fnOf "is_prime" "is_prime" (defArgs s_is_prime) (defBody s_is_prime) (defScope s_is_prime) .none kV1 dc1 pm1 an1 cd1 ct1), sl1⟩) (c1 : PySem.W.codeIn K cd1 "is_prime" = true) (k1 : PySem.W.keepIn K (.ref f1) = true)
{f2 : Addr} {od2 an2 : Option Addr} {sl2 : Array (Option Value)} {oc2 kV2 dc2 pm2 cd2 ct2 : Value}
    (a2 : PySem.W.nsIn K mainGlobals "is_shape" = some (some (.ref f2))) (l2 : K.lookup f2 = some ⟨oc2, od2, .func (PySem.W.fnOf "is_shape" "is_shape" (defArgs s_is_shape) (defBody s_is_shape) (defScope s_is_shape) .none kV2 dc2 pm2 an2 cd2 ct2), sl2⟩) (c2 : PySem.W.codeIn K cd2 "is_shape" = true) (k2 : PySem.W.keepIn K (.ref f2) = true)
{f3 : Addr} {od3 an3 : Option Addr} {sl3 : Array (Option Value)} {oc3 kV3 dc3 pm3 cd3 ct3 : Value}
    (a3 : PySem.W.nsIn K mainGlobals "_law_deck" = some (some (.ref f3))) (l3 : K.lookup f3 = some ⟨oc3, od3, .func (PySem.W.fnOf "_law_deck" "_law_deck" (defArgs s_xdeck) (defBody s_xdeck) (defScope s_xdeck) .none kV3 dc3 pm3 an3 cd3 ct3), sl3⟩) (c3 : PySem.W.codeIn K cd3 "_law_deck" = true) (k3 : PySem.W.keepIn K (.ref f3) = true)
{f4 : Addr} {od4 an4 : Option Addr} {sl4 : Array (Option Value)} {oc4 kV4 dc4 pm4 cd4 ct4 : Value}
    (a4 : PySem.W.nsIn K mainGlobals "_law_draw" = some (some (.ref f4))) (l4 : K.lookup f4 = some ⟨oc4, od4, .func (PySem.W.fnOf "_law_draw" "_law_draw" (defArgs s_xdraw) (defBody s_xdraw) (defScope s_xdraw) .none kV4 dc4 pm4 an4 cd4 ct4), sl4⟩) (c4 : PySem.W.codeIn K cd4 "_law_draw" = true) (k4 : PySem.W.keepIn K (.ref f4) = true)
{f5 : Addr} {od5 an5 : Option Addr} {sl5 : Array (Option Value)} {oc5 kV5 dc5 pm5 cd5 ct5 : Value}
    (a5 : PySem.W.nsIn K mainGlobals "_law_whole" = some (some (.ref f5))) (l5 : K.lookup f5 = some ⟨oc5, od5, .func (PySem.W.fnOf "_law_whole" "_law_whole" (defArgs s_xwhole) (defBody s_xwhole) (defScope s_xwhole) .none kV5 dc5 pm5 an5 cd5 ct5), sl5⟩) (c5 : PySem.W.codeIn K cd5 "_law_whole" = true) (k5 : PySem.W.keepIn K (.ref f5) = true)
{f6 : Addr} {od6 an6 : Option Addr} {sl6 : Array (Option Value)} {oc6 kV6 dc6 pm6 cd6 ct6 : Value}
    (a6 : PySem.W.nsIn K mainGlobals "_law_prime" = some (some (.ref f6))) (l6 : K.lookup f6 = some ⟨oc6, od6, .func (PySem.W.fnOf "_law_prime" "_law_prime" (defArgs s_xprime) (defBody s_xprime) (defScope s_xprime) .none kV6 dc6 pm6 an6 cd6 ct6), sl6⟩) (c6 : PySem.W.codeIn K cd6 "_law_prime" = true) (k6 : PySem.W.keepIn K (.ref f6) = true)
{f7 : Addr} {od7 an7 : Option Addr} {sl7 : Array (Option Value)} {oc7 kV7 dc7 pm7 cd7 ct7 : Value}
    (a7 : PySem.W.nsIn K mainGlobals "_law_shape" = some (some (.ref f7))) (l7 : K.lookup f7 = some ⟨oc7, od7, .func (PySem.W.fnOf "_law_shape" "_law_shape" (defArgs s_xshape) (defBody s_xshape) (defScope s_xshape) .none kV7 dc7 pm7 an7 cd7 ct7), sl7⟩) (c7 : PySem.W.codeIn K cd7 "_law_shape" = true) (k7 : PySem.W.keepIn K (.ref f7) = true)
{f8 : Addr} {od8 an8 : Option Addr} {sl8 : Array (Option Value)} {oc8 kV8 dc8 pm8 cd8 ct8 : Value}
    (a8 : PySem.W.nsIn K mainGlobals "_law_is_prime" = some (some (.ref f8))) (l8 : K.lookup f8 = some ⟨oc8, od8, .func (PySem.W.fnOf "_law_is_prime" "_law_is_prime" (defArgs s_xis_prime) (defBody s_xis_prime) (defScope s_xis_prime) .none kV8 dc8 pm8 an8 cd8 ct8), sl8⟩) (c8 : PySem.W.codeIn K cd8 "_law_is_prime" = true) (k8 : PySem.W.keepIn K (.ref f8) = true)
{f9 : Addr} {od9 an9 : Option Addr} {sl9 : Array (Option Value)} {oc9 kV9 dc9 pm9 cd9 ct9 : Value}
    (a9 : PySem.W.nsIn K mainGlobals "_law_odd" = some (some (.ref f9))) (l9 : K.lookup f9 = some ⟨oc9, od9, .func (PySem.W.fnOf "_law_odd" "_law_odd" (defArgs s_xodd) (defBody s_xodd) (defScope s_xodd) .none kV9 dc9 pm9 an9 cd9 ct9), sl9⟩) (c9 : PySem.W.codeIn K cd9 "_law_odd" = true) (k9 : PySem.W.keepIn K (.ref f9) = true)
{f10 : Addr} {od10 an10 : Option Addr} {sl10 : Array (Option Value)} {oc10 kV10 dc10 pm10 cd10 ct10 : Value}
    (a10 : PySem.W.nsIn K mainGlobals "_law_due" = some (some (.ref f10))) (l10 : K.lookup f10 = some ⟨oc10, od10, .func (PySem.W.fnOf "_law_due" "_law_due" (defArgs s_xdue) (defBody s_xdue) (defScope s_xdue) .none kV10 dc10 pm10 an10 cd10 ct10), sl10⟩) (c10 : PySem.W.codeIn K cd10 "_law_due" = true) (k10 : PySem.W.keepIn K (.ref f10) = true)
{f11 : Addr} {od11 an11 : Option Addr} {sl11 : Array (Option Value)} {oc11 kV11 dc11 pm11 cd11 ct11 : Value}
    (a11 : PySem.W.nsIn K mainGlobals "_law_spoilt" = some (some (.ref f11))) (l11 : K.lookup f11 = some ⟨oc11, od11, .func (PySem.W.fnOf "_law_spoilt" "_law_spoilt" (defArgs s_xspoilt) (defBody s_xspoilt) (defScope s_xspoilt) .none kV11 dc11 pm11 an11 cd11 ct11), sl11⟩) (c11 : PySem.W.codeIn K cd11 "_law_spoilt" = true) (k11 : PySem.W.keepIn K (.ref f11) = true)
{f12 : Addr} {od12 an12 : Option Addr} {sl12 : Array (Option Value)} {oc12 kV12 dc12 pm12 cd12 ct12 : Value}
    (a12 : PySem.W.nsIn K mainGlobals "law" = some (some (.ref f12))) (l12 : K.lookup f12 = some ⟨oc12, od12, .func (PySem.W.fnOf "law" "law" (defArgs s_law) (defBody s_law) (defScope s_law) .none kV12 dc12 pm12 an12 cd12 ct12), sl12⟩) (c12 : PySem.W.codeIn K cd12 "law" = true) (k12 : PySem.W.keepIn K (.ref f12) = true)
    (z_abs : PySem.W.nsIn K mainGlobals "abs" = some none)
    (z_all : PySem.W.nsIn K mainGlobals "all" = some none)
    (z_bool : PySem.W.nsIn K mainGlobals "bool" = some none)
    (z_int : PySem.W.nsIn K mainGlobals "int" = some none)
    (z_isinstance : PySem.W.nsIn K mainGlobals "isinstance" = some none)
    (z_len : PySem.W.nsIn K mainGlobals "len" = some none)
    (z_list : PySem.W.nsIn K mainGlobals "list" = some none)
    (z_range : PySem.W.nsIn K mainGlobals "range" = some none)
    (z_repr : PySem.W.nsIn K mainGlobals "repr" = some none)
    (z_tuple : PySem.W.nsIn K mainGlobals "tuple" = some none)
    {e_PRIMES : Addr} {o_PRIMES : Obj} {i_PRIMES : Array Value} {n_PRIMES : Nat} (y_PRIMES : PySem.W.nsIn K mainGlobals "PRIMES" = some (some (.ref e_PRIMES))) (q_PRIMES : K.lookup e_PRIMES = some o_PRIMES) (qc_PRIMES : o_PRIMES.cls = .type "tuple") (qd_PRIMES : o_PRIMES.data = .seq i_PRIMES n_PRIMES) (qs_PRIMES : i_PRIMES.size ≤ sizeLine) (qv_PRIMES : Vals (([11, 13, 17, 19, 23, 29, 31, 37, 41, 43, 47, 53, 59, 61, 67, 71, 73, 79, 83, 89, 97, 101, 103, 107, 109, 113, 127, 131, 137, 139, 149, 151, 157, 163, 167, 173, 179, 181, 191, 193, 197, 199, 211] : List Int).map V.int) i_PRIMES.toList)
    {t_MOST_COLUMNS : Tok} (y_MOST_COLUMNS : PySem.W.nsIn K mainGlobals "MOST_COLUMNS" = some (some (.int 5 t_MOST_COLUMNS))) :
    ∃ fd : FuncData, (∀ (s : Shared) (v : Value), BindsTo s fd ⟨[v], []⟩ [("_law_script", v)]) ∧ ∀ base : Heap, K.In base → base.Ns mainGlobals mg → FnG l.prog w K mg base 4 fa fd ["_law_script"] (spF K 1 F_law) := by
  have e := hfa.symm.trans (PySem.W.mg_of X G a12)
  cases e
  let T : Txt K mg := {
    a_is_number := f0, fd_is_number := _, u_is_number := fun_mk (st := s_is_number) l0 c0 k0, g_is_number := PySem.W.mg_of X G a0, b_is_number := (fun_mk (st := s_is_number) l0 c0 k0).binds (fun _ _ _ _ _ _ us hl => match us, hl with | [_], _ => rfl),
    a_is_prime := f1, fd_is_prime := _, u_is_prime := fun_mk (st := s_is_prime) l1 c1 k1, g_is_prime := PySem.W.mg_of X G a1, b_is_prime := (fun_mk (st := s_is_prime) l1 c1 k1).binds (fun _ _ _ _ _ _ us hl => match us, hl with | [_], _ => rfl),
    a_is_shape := f2, fd_is_shape := _, u_is_shape := fun_mk (st := s_is_shape) l2 c2 k2, g_is_shape := PySem.W.mg_of X G a2, b_is_shape := (fun_mk (st := s_is_shape) l2 c2 k2).binds (fun _ _ _ _ _ _ us hl => match us, hl with | [_], _ => rfl),
    a_xdeck := f3, fd_xdeck := _, u_xdeck := fun_mk (st := s_xdeck) l3 c3 k3, g_xdeck := PySem.W.mg_of X G a3, b_xdeck := (fun_mk (st := s_xdeck) l3 c3 k3).binds (fun _ _ _ _ _ _ us hl => match us, hl with | [_], _ => rfl),
    a_xdraw := f4, fd_xdraw := _, u_xdraw := fun_mk (st := s_xdraw) l4 c4 k4, g_xdraw := PySem.W.mg_of X G a4, b_xdraw := (fun_mk (st := s_xdraw) l4 c4 k4).binds (fun _ _ _ _ _ _ us hl => match us, hl with | [_, _], _ => rfl),
    a_xwhole := f5, fd_xwhole := _, u_xwhole := fun_mk (st := s_xwhole) l5 c5 k5, g_xwhole := PySem.W.mg_of X G a5, b_xwhole := (fun_mk (st := s_xwhole) l5 c5 k5).binds (fun _ _ _ _ _ _ us hl => match us, hl with | [_], _ => rfl),
    a_xprime := f6, fd_xprime := _, u_xprime := fun_mk (st := s_xprime) l6 c6 k6, g_xprime := PySem.W.mg_of X G a6, b_xprime := (fun_mk (st := s_xprime) l6 c6 k6).binds (fun _ _ _ _ _ _ us hl => match us, hl with | [_], _ => rfl),
    a_xshape := f7, fd_xshape := _, u_xshape := fun_mk (st := s_xshape) l7 c7 k7, g_xshape := PySem.W.mg_of X G a7, b_xshape := (fun_mk (st := s_xshape) l7 c7 k7).binds (fun _ _ _ _ _ _ us hl => match us, hl with | [_], _ => rfl),
    a_xis_prime := f8, fd_xis_prime := _, u_xis_prime := fun_mk (st := s_xis_prime) l8 c8 k8, g_xis_prime := PySem.W.mg_of X G a8, b_xis_prime := (fun_mk (st := s_xis_prime) l8 c8 k8).binds (fun _ _ _ _ _ _ us hl => match us, hl with | [_], _ => rfl),
    a_xodd := f9, fd_xodd := _, u_xodd := fun_mk (st := s_xodd) l9 c9 k9, g_xodd := PySem.W.mg_of X G a9, b_xodd := (fun_mk (st := s_xodd) l9 c9 k9).binds (fun _ _ _ _ _ _ us hl => match us, hl with | [_, _], _ => rfl),
    a_xdue := f10, fd_xdue := _, u_xdue := fun_mk (st := s_xdue) l10 c10 k10, g_xdue := PySem.W.mg_of X G a10, b_xdue := (fun_mk (st := s_xdue) l10 c10 k10).binds (fun _ _ _ _ _ _ us hl => match us, hl with | [_], _ => rfl),
    a_xspoilt := f11, fd_xspoilt := _, u_xspoilt := fun_mk (st := s_xspoilt) l11 c11 k11, g_xspoilt := PySem.W.mg_of X G a11, b_xspoilt := (fun_mk (st := s_xspoilt) l11 c11 k11).binds (fun _ _ _ _ _ _ us hl => match us, hl with | [_, _], _ => rfl),
    a_law := _, fd_law := _, u_law := fun_mk (st := s_law) l12 c12 k12, g_law := PySem.W.mg_of X G a12, b_law := (fun_mk (st := s_law) l12 c12 k12).binds (fun _ _ _ _ _ _ us hl => match us, hl with | [_], _ => rfl),
    m_abs := PySem.W.mg_none_of X G z_abs,
    m_all := PySem.W.mg_none_of X G z_all,
    m_bool := PySem.W.mg_none_of X G z_bool,
    m_int := PySem.W.mg_none_of X G z_int,
    m_isinstance := PySem.W.mg_none_of X G z_isinstance,
    m_len := PySem.W.mg_none_of X G z_len,
    m_list := PySem.W.mg_none_of X G z_list,
    m_range := PySem.W.mg_none_of X G z_range,
    m_repr := PySem.W.mg_none_of X G z_repr,
    m_tuple := PySem.W.mg_none_of X G z_tuple,
    v_PRIMES := .ref e_PRIMES, w_PRIMES := _, g_PRIMES := PySem.W.mg_of X G y_PRIMES, r_PRIMES := rfl, d_PRIMES := dq_ktup q_PRIMES qc_PRIMES qd_PRIMES qs_PRIMES qv_PRIMES,
    v_MOST_COLUMNS := .int 5, w_MOST_COLUMNS := _, g_MOST_COLUMNS := PySem.W.mg_of X G y_MOST_COLUMNS, r_MOST_COLUMNS := ⟨_, rfl⟩, d_MOST_COLUMNS := fun _ => .int 5 }
  exact ⟨PySem.W.fnOf "law" "law" (defArgs s_law) (defBody s_law) (defScope s_law) .none kV12 dc12 pm12 an12 cd12 ct12, fun s v => .of_eq rfl, fun base _ _ => ok_law T⟩
end Lk09

namespace Lk09
open PySem Sm L2
abbrev dk (cs : List Int) (c : Int) (rest : Mem) : Mem := some (cs.map fun z => SV.dat (.int z)) :: some [.cel 0, .dat (.int c)] :: rest
abbrev ze (n : Int) : SV := .dat (.int n)
section
variable {cs : List Int} {c many : Int} {rest : Mem}
theorem dr1 : B_xdraw_1 [some (.cel 1), some (ze many), none, none] (dk cs c rest) = some (.nx [some (.cel 1), some (ze many), none, none] (dk cs (c + 1) rest)) := rfl
theorem dr23 {r : Option Ctl} (h : sSeq B_xdraw_4 (sSeq B_xdraw_5 B_xdraw_6) [some (.cel 1), some (ze many), some (ze 0), some (ze (-1))] (dk cs c rest) = r) :
    sSeq B_xdraw_2 (sSeq B_xdraw_3 (sSeq B_xdraw_4 (sSeq B_xdraw_5 B_xdraw_6))) [some (.cel 1), some (ze many), none, none] (dk cs c rest) = r := by
  refine sSeq_nx (M1 := dk cs c rest) rfl (sSeq_nx (M1 := dk cs c rest) rfl h)
theorem dr4a : B_xdraw_4 [some (.cel 1), some (ze many), some (ze 0), some (ze (-1))] (dk [] c rest) = some (.nx [some (.cel 1), some (ze many), some (ze 0), some (ze (-1))] (dk [] c rest)) := rfl
theorem dr4b {k : Nat} {z : Int} (hk : c % (cs.length : Int) = (k : Int)) (hz : cs[k]? = some z) : B_xdraw_4 [some (.cel 1), some (ze many), some (ze 0), some (ze (-1))] (dk cs c rest) = some (.nx [some (.cel 1), some (ze many), some (ze z), some (ze (k : Int))] (dk cs c rest)) := by
  obtain ⟨hlt, _⟩ := List.getElem?_eq_some_iff.mp hz
  have hl : (cs.map fun z => SV.dat (.int z)).length = cs.length := List.length_map _
  have len : ∀ ρ, ρ[0]? = some (some (.cel 1)) → eCB (one fLen) (aCons (eOp fIx (eVar 0) (eC (.int 0))) aNil) ρ (dk cs c rest) = some (ze (cs.length : Int), dk cs c rest) := by
    intro ρ h
    refine eCB_eq (xs := [.cel 0]) (aCons_eq (eOp_eq (x := .cel 1) (y := ze 0) (M1 := dk cs c rest) ?_ rfl rfl) rfl) ?_
    · simp only [eVar, h]
    · show some (SV.dat (.int ((cs.map fun z => SV.dat (.int z)).length : Int))) = _
      rw [hl]
  unfold B_xdraw_4
  refine sIf_t (M1 := dk cs c rest) ?_ ?_
  · have h : decide ((0 : Int) < (cs.length : Int)) = true := decide_eq_true (by omega)
    rw [← h]
    exact bVal_eq (eOp_eq (len _ rfl) rfl l_gt)
  · refine sSeq_nx (M1 := dk cs c rest) (ρ1 := [some (.cel 1), some (ze many), some (ze 0), some (ze (k : Int))]) ?_ ?_
    · refine sAsg_eq (x := ze (k : Int)) (M1 := dk cs c rest) ?_ rfl
      rw [← hk]
      exact eOp_eq (eOp_eq (x := .cel 1) (y := ze 1) (M1 := dk cs c rest) rfl rfl rfl) (len _ rfl) (l_mod (by omega))
    · refine sAsg_eq (x := ze z) (M1 := dk cs c rest) ?_ rfl
      refine eOp_eq (x := .cel 0) (y := ze (k : Int)) (M1 := dk cs c rest) (M2 := dk cs c rest) rfl rfl ?_
      show atI (cs.map fun z => SV.dat (.int z)) (k : Int) = _
      exact atI_in rfl (by rw [List.getElem?_map, hz]; rfl)
theorem dr56 {z : Int} {k : Nat} (w : Int) (hk : w = (k : Int)) (hlt : k < cs.length) (h0 : 0 ≤ z) (hm : 0 < many) (hm2 : many < 2 ^ 64) (hb : 10 ^ 18 ≤ z) :
    sSeq B_xdraw_5 B_xdraw_6 [some (.cel 1), some (ze many), some (ze z), some (ze w)] (dk cs c rest) = some (.rt (ze (z % many)) (dk (cs.set k (z / many)) c rest)) := by
  subst hk
  refine sSeq_rt (sIf_t (M1 := dk cs c rest) ?_ ?_)
  · have h : decide (((10 : Int) ^ (18 : Int).toNat) ≤ z) = true := decide_eq_true hb
    rw [← h]
    exact bVal_eq (eOp_eq (M1 := dk cs c rest) (M2 := dk cs c rest) rfl rfl l_ge)
  · refine sSeq_nx (M1 := dk (cs.set k (z / many)) c rest) (ρ1 := [some (.cel 1), some (ze many), some (ze z), some (ze (k : Int))]) ?_ ?_
    · refine sAsg_eq (M1 := dk cs c rest) (eOp_eq (M1 := dk cs c rest) (x := ze z) (y := ze many) rfl rfl (l_div hm hm2)) ?_
      simp only [gStore, eOp_eq (f := fIx) (a := eVar 0) (b := eC (.int 0)) (ρ := [some (.cel 1), some (ze many), some (ze z), some (ze (k : Int))]) (M := dk cs c rest) (M1 := dk cs c rest) (M2 := dk cs c rest) (x := .cel 1) (y := ze 0) (z := .cel 0) rfl rfl rfl, Option.bind_some]
      show ((ixN (cs.map fun z => SV.dat (.int z)).length (k : Int)).bind fun j => some (_, ((dk cs c rest).set 0 (some ((cs.map fun z => SV.dat (.int z)).set j (.dat (.int (z / many)))))))) = _
      rw [List.length_map, ixN_in hlt]
      simp [List.map_set]
    · exact sRet_eq (eOp_eq (M1 := dk (cs.set k (z / many)) c rest) (x := ze z) (y := ze many) rfl rfl (l_mod hm))
theorem dr5f {z w : Int} (hb : ¬ 10 ^ 18 ≤ z) {r : Option Ctl} (h : B_xdraw_6 [some (.cel 1), some (ze many), some (ze z), some (ze w)] (dk cs c rest) = r) :
    sSeq B_xdraw_5 B_xdraw_6 [some (.cel 1), some (ze many), some (ze z), some (ze w)] (dk cs c rest) = r := by
  refine sSeq_nx (M1 := dk cs c rest) (sIf_f (M1 := dk cs c rest) ?_ rfl) h
  have h : decide (((10 : Int) ^ (18 : Int).toNat) ≤ z) = false := decide_eq_false hb
  rw [← h]
  exact bVal_eq (eOp_eq (M1 := dk cs c rest) (M2 := dk cs c rest) rfl rfl l_ge)
theorem dr6 {z w : Int} (h0 : 0 ≤ z) (hc : 0 ≤ c) (hc2 : c < 2 ^ 40) (hm : 0 < many) : ∃ r, 0 ≤ r ∧ r < many ∧ B_xdraw_6 [some (.cel 1), some (ze many), some (ze z), some (ze w)] (dk cs c rest) = some (.rt (ze r) (dk cs c rest)) := by
  refine ⟨(z % 2147483587 + 7919 * c + 1) ^ 5 % 2147483647 / 7 % many, Int.emod_nonneg _ (by omega), Int.emod_lt_of_pos _ hm, ?_⟩
  have b1 : 0 ≤ z % 2147483587 := Int.emod_nonneg _ (by omega)
  have b2 : z % 2147483587 < 2147483587 := Int.emod_lt_of_pos _ (by omega)
  refine sRet_eq (eOp_eq (M1 := dk cs c rest) (eOp_eq (M1 := dk cs c rest) (eOp_eq (M1 := dk cs c rest) (eOp_eq (M1 := dk cs c rest) (y := .dat (.int ((5 : Nat) : Int))) (eOp_eq (M1 := dk cs c rest) (eOp_eq (M1 := dk cs c rest) (eOp_eq (M1 := dk cs c rest) (x := ze z) rfl rfl (l_mod (by omega))) (eOp_eq (M1 := dk cs c rest) (x := ze 7919) (y := ze c) rfl rfl (l_mul (by omega))) l_add) rfl l_add) rfl (l_pow (by omega) (by omega) (by omega))) rfl (l_mod (by omega))) rfl (l_div (by omega) (by omega))) (y := ze many) rfl (l_mod hm))
theorem draw_ok (h0 : ∀ z ∈ cs, 0 ≤ z) (hc : 0 ≤ c) (hc2 : c + 1 < 2 ^ 40) (hm : 0 < many) (hm2 : many < 2 ^ 64) :
    ∃ r cs', 0 ≤ r ∧ r < many ∧ (∀ z ∈ cs', 0 ≤ z) ∧ F_xdraw [.cel 1, ze many] (dk cs c rest) = some (ze r, dk cs' (c + 1) rest) := by
  have fin : ∀ r cs', B_xdraw [some (.cel 1), some (ze many), none, none] (dk cs c rest) = some (.rt (ze r) (dk cs' (c + 1) rest)) → F_xdraw [.cel 1, ze many] (dk cs c rest) = some (ze r, dk cs' (c + 1) rest) := by
    intro r cs' h
    exact mkF_rtL rfl h
  have start : ∀ r, sSeq B_xdraw_4 (sSeq B_xdraw_5 B_xdraw_6) [some (.cel 1), some (ze many), some (ze 0), some (ze (-1))] (dk cs (c + 1) rest) = r → B_xdraw [some (.cel 1), some (ze many), none, none] (dk cs c rest) = r := by
    intro r h
    exact sSeq_nx dr1 (dr23 h)
  by_cases hn : cs = []
  · subst hn
    obtain ⟨r, h1, h2, h3⟩ := dr6 (cs := []) (c := c + 1) (many := many) (rest := rest) (z := 0) (w := -1) (by omega) (by omega) hc2 hm
    exact ⟨r, [], h1, h2, h0, fin r [] (start _ (sSeq_nx dr4a (dr5f (by decide) h3)))⟩
  · have hl : 0 < cs.length := List.length_pos_iff.mpr hn
    have hlt : ((c + 1) % (cs.length : Int)).toNat < cs.length := by
      have a1 := Int.emod_nonneg (c + 1) (b := (cs.length : Int)) (by omega)
      have a2 := Int.emod_lt_of_pos (c + 1) (b := (cs.length : Int)) (by omega)
      omega
    have hk : (c + 1) % (cs.length : Int) = ((((c + 1) % (cs.length : Int)).toNat : Nat) : Int) := by
      have a1 := Int.emod_nonneg (c + 1) (b := (cs.length : Int)) (by omega)
      omega
    generalize ((c + 1) % (cs.length : Int)).toNat = k at hlt hk
    have hz : cs[k]? = some cs[k] := List.getElem?_eq_getElem hlt
    have hz0 : 0 ≤ cs[k] := h0 _ (List.getElem_mem hlt)
    by_cases hb : 10 ^ 18 ≤ cs[k]
    · refine ⟨cs[k] % many, cs.set k (cs[k] / many), Int.emod_nonneg _ (by omega), Int.emod_lt_of_pos _ hm, fun z hz' => ?_, fin _ _ (start _ (sSeq_nx (dr4b hk hz) (dr56 _ rfl hlt hz0 hm hm2 hb)))⟩
      rcases List.mem_or_eq_of_mem_set hz' with q | q
      · exact h0 z q
      · rw [q]; exact Int.ediv_nonneg hz0 (by omega)
    · obtain ⟨r, h1, h2, h3⟩ := dr6 (cs := cs) (c := c + 1) (many := many) (rest := rest) (z := cs[k]) (w := (k : Int)) hz0 (by omega) hc2 hm
      exact ⟨r, cs, h1, h2, h0, fin r cs (start _ (sSeq_nx (dr4b hk hz) (dr5f hb h3)))⟩
end
theorem deck_ok (ns : List Int) (hn : ns.length ≤ 63) : F_xdeck [.dat (.list (ns.map PyData.int))] [] = some (.cel 1, dk (ns.map fun z => if z < 0 then -z else z) 0 []) := by
  have cut : cutD (ns.map PyData.int) none (some 63) = ns.map PyData.int := by
    unfold cutD
    have e1 : HT.sIx (ns.map PyData.int).length 0 none = 0 := rfl
    have e2 : HT.sIx (ns.map PyData.int).length (ns.map PyData.int).length (some 63) = min 63 (ns.map PyData.int).length := HT.sIx_nat _ _ 63
    rw [e1, e2, List.drop_zero, Nat.sub_zero]
    apply List.take_of_length_le
    rw [List.length_map]; omega
  have lc : lcL (gNm 1) bYes (eCB (one (lift1 dAbs)) (aCons (eVar 1) aNil)) [some (.dat (.list (ns.map PyData.int))), none] (ns.map PyData.int) [] = some ((ns.map PyData.int).map (fun d => (dAbs d).getD .none), []) := by
    refine lcL_map _ fun d hd => ?_
    obtain ⟨z, _, rfl⟩ := List.mem_map.mp hd
    exact ⟨_, rfl, rfl⟩
  have e : (ns.map PyData.int).map (fun d => (dAbs d).getD .none) = (ns.map fun z => if z < 0 then -z else z).map PyData.int := by
    rw [List.map_map, List.map_map]; rfl
  rw [e] at lc
  have el : eLcN (iDat (eSl fSl (eVar 0) oNone (oSome (eC (.int 63))))) (gNm 1) bYes (eCB (one (lift1 dAbs)) (aCons (eVar 1) aNil)) [1] [some (.dat (.list (ns.map PyData.int))), none] [] = some (.cel 0, [some (((ns.map fun z => if z < 0 then -z else z).map PyData.int).map SV.dat)]) := by
    have i1 : iDat (eSl fSl (eVar 0) oNone (oSome (eC (.int 63)))) [some (.dat (.list (ns.map PyData.int))), none] [] = some (ns.map PyData.int, []) := by
      show some (cutD (ns.map PyData.int) none (some 63), []) = _
      rw [cut]
    unfold eLcN
    rw [i1]
    show (if (ns.map PyData.int).length ≤ 100000 then (lcL (gNm 1) bYes (eCB (one (lift1 dAbs)) (aCons (eVar 1) aNil)) [some (.dat (.list (ns.map PyData.int))), none] (ns.map PyData.int) []).bind _ else none) = _
    rw [if_pos (by rw [List.length_map]; omega), lc]
    rfl
  unfold F_xdeck mkF B_xdeck
  show ((sRet (eNew (aCons (eLcN (iDat (eSl fSl (eVar 0) oNone (oSome (eC (.int 63))))) (gNm 1) bYes (eCB (one (lift1 dAbs)) (aCons (eVar 1) aNil)) [1]) (aCons (eC (.int 0)) aNil)))) [some (.dat (.list (ns.map PyData.int))), none] []).bind _ = _
  rw [sRet_eq (eNew_eq (aCons_eq el (aCons_eq (x := ze 0) rfl rfl)) (by decide))]
  show some (SV.cel 1, _) = some (SV.cel 1, _)
  rw [List.map_map]
  rfl
theorem range_at {lo hi : Int} {i : Nat} {x : PyData} (h : (rangeD lo hi)[i]? = some x) : ∃ z, x = .int z ∧ lo ≤ z ∧ z < hi := by
  unfold rangeD at h
  rw [List.getElem?_map] at h
  obtain ⟨k, hk, e⟩ := Option.map_eq_some_iff.mp h
  obtain ⟨h1, h2⟩ := List.getElem?_eq_some_iff.mp hk
  rw [List.length_range] at h1
  rw [List.getElem_range] at h2
  subst h2
  exact ⟨_, e.symm, by omega, by omega⟩
theorem map_at {α β : Type} {f g : α → β} : ∀ {l : List α}, l.map f = l.map g → ∀ {x : α}, x ∈ l → f x = g x
  | [], _, _, h => by cases h
  | a :: l, e, x, h => by
    rw [List.map_cons, List.map_cons] at e
    injection e with e1 e2
    rcases List.mem_cons.mp h with q | q
    · rw [q]; exact e1
    · exact map_at e2 q
theorem log_small {i : Int} (h1 : -1000 ≤ i) (h2 : i ≤ 1000) : i.natAbs.log2 < 1920 := by
  have h : i.natAbs ≤ 1000 := by omega
  have : i.natAbs.log2 ≤ 1000 := Nat.le_trans (Nat.log2_le_self _) h
  omega
theorem abs_nn (ns : List Int) : ∀ z ∈ (ns.map fun z => if z < 0 then -z else z), 0 ≤ z := by
  intro z hz
  obtain ⟨y, _, rfl⟩ := List.mem_map.mp hz
  split <;> omega
/-! ### what is drawn -/
def Gd (rest : Mem) (b : Int) (M : Mem) : Prop := ∃ cs c, M = dk cs c rest ∧ (∀ z ∈ cs, 0 ≤ z) ∧ 0 ≤ c ∧ c ≤ b
theorem Gd.up {rest : Mem} {b b' : Int} {M : Mem} (h : Gd rest b M) (hb : b ≤ b') : Gd rest b' M := by
  obtain ⟨cs, c, e, h0, h1, h2⟩ := h
  exact ⟨cs, c, e, h0, h1, by omega⟩
theorem Gd.len {rest : Mem} {b b' : Int} {M M' : Mem} (h : Gd rest b M) (h' : Gd rest b' M') : M'.length = M.length := by
  obtain ⟨cs, c, rfl, _⟩ := h
  obtain ⟨cs', c', rfl, _⟩ := h'
  rfl
theorem draw_g {rest : Mem} {b many : Int} {M : Mem} (h : Gd rest b M) (hb : b < 2 ^ 39) (hm : 0 < many) (hm2 : many < 2 ^ 64) :
    ∃ r M', F_xdraw [.cel 1, ze many] M = some (ze r, M') ∧ 0 ≤ r ∧ r < many ∧ Gd rest (b + 1) M' := by
  obtain ⟨cs, c, rfl, h0, h1, h2⟩ := h
  obtain ⟨r, cs', r1, r2, h3, e⟩ := draw_ok (rest := rest) (many := many) h0 h1 (by omega) hm hm2
  exact ⟨r, _, e, r1, r2, cs', c + 1, rfl, h3, by omega, by omega⟩
end Lk09

namespace Lk09
open PySem Sm L2
local macro_rules
  | `(tactic| walk_at "le") => `(tactic| ((try simp only [List.length_cons, List.length_nil, List.length_append, List.length_map]); omega))
local macro_rules
  | `(tactic| walk_at "smb") => `(tactic| first
    | with_reducible assumption
    | with_reducible rfl
    | assumption
    | rfl
    | (simp only [decide_eq_true_eq, decide_eq_false_iff_not, beq_iff_eq, Bool.not_eq_true', Bool.not_eq_false', beq_eq_false_iff_ne, Bool.and_eq_true, Bool.or_eq_true, Bool.not_eq_true, Bool.not_eq_false, ne_eq, Bool.and_eq_false_imp, Bool.or_eq_false_iff]; omega))
local macro_rules
  | `(tactic| walk_at "smf") => `(tactic| fail "no call")
local macro_rules
  | `(tactic| walk_at "sml") => `(tactic| first
    | with_reducible assumption
    | with_reducible exact l_add
    | with_reducible exact l_sub
    | with_reducible exact l_eq
    | with_reducible exact l_ne
    | with_reducible exact l_lt
    | with_reducible exact l_le
    | with_reducible exact l_gt
    | with_reducible exact l_ge
    | with_reducible exact l_eqSS
    | with_reducible exact l_neSS
    | with_reducible exact l_eqBS
    | with_reducible exact l_neBS
    | with_reducible exact l_eqB
    | with_reducible exact l_neB
    | with_reducible exact l_eqS
    | with_reducible exact l_neS
    | with_reducible exact l_neg
    | with_reducible exact isi_int _
    | with_reducible exact isi_bool _
    | with_reducible exact isi_tup _
    | with_reducible exact l_lenL
    | with_reducible exact l_lenT
    | with_reducible exact l_slL
    | with_reducible exact l_slT
    | ((with_reducible apply l_mod); (walk_at "smo"))
    | ((with_reducible apply l_mul); (walk_at "smo"))
    | ((with_reducible apply l_div); (walk_at "smo"); (walk_at "smo"))
    | ((with_reducible apply l_addT); rfl)
    | ((with_reducible apply l_addL); rfl)
    | ((with_reducible apply l_ixL); first | assumption | rfl)
    | ((with_reducible apply l_ixT); first | assumption | rfl)
    | ((with_reducible apply one_eq); (walk_at "sml"))
    | with_reducible assumption
    | rfl)
local macro_rules
  | `(tactic| walk_at "smo") => `(tactic| first | assumption | omega)
local macro_rules
  | `(tactic| walk_at "sm") => `(tactic| first
    | with_reducible assumption
    | with_reducible exact aNil_eq
    | with_reducible exact eC_eq
    | with_reducible exact sNext_eq
    | with_reducible exact eD0_eq
    | ((with_reducible apply eD1_eq); (walk_at "sm"))
    | ((with_reducible apply eC_e); rfl)
    | with_reducible exact oNone_eq
    | ((with_reducible apply eVar_eq); rfl)
    | ((with_reducible apply aCons_eq); (walk_at "sm"); (walk_at "sm"))
    | ((with_reducible apply eOp_eq); (walk_at "sm"); (walk_at "sm"); (walk_at "sml"))
    | ((with_reducible apply eUn_eq); (walk_at "sm"); (walk_at "sml"))
    | ((with_reducible apply eCB_eq); (walk_at "sm"); (walk_at "sml"))
    | ((with_reducible apply eCall_eq); (walk_at "sm"); (first | with_reducible assumption | walk_at "smf"))
    | ((with_reducible apply eTup_e); (walk_at "sm"); rfl; rfl)
    | ((with_reducible apply eLst_e); (walk_at "sm"); rfl; rfl)
    | ((with_reducible apply oSome_eq); (walk_at "sm"))
    | ((with_reducible apply eSl_eq); (walk_at "sm"); (walk_at "sm"); (walk_at "sm"); (walk_at "sml"))
    | ((with_reducible apply eNot_eq); (walk_at "sm"))
    | ((with_reducible apply bNot_eq); (walk_at "sm"))
    | ((with_reducible apply bVal_eq); (walk_at "sm"))
    | ((with_reducible apply bTru_b); (walk_at "sm"))
    | ((with_reducible apply eChain_e); (walk_at "sm"); (walk_at "sm"); (walk_at "sml"); (walk_at "sm"); (walk_at "sml"))
    | ((with_reducible apply eChain3_e); (walk_at "sm"); (walk_at "sm"); (walk_at "sml"); (walk_at "sm"); (walk_at "sml"); (walk_at "sm"); (walk_at "sml"))
    | ((with_reducible apply bOr_e); (walk_at "sm"); (first | ((apply ite_T); (walk_at "smb"); rfl) | ((apply ite_F); (walk_at "smb"); (walk_at "sm")) | ((apply or_gen); (walk_at "sm"))))
    | ((with_reducible apply bAnd_e); (walk_at "sm"); (first | ((apply ite_F); (walk_at "smb"); rfl) | ((apply ite_T); (walk_at "smb"); (walk_at "sm")) | ((apply and_gen); (walk_at "sm"))))
    | ((with_reducible apply eOr_e); (walk_at "sm"); (first | ((apply ite_T); (walk_at "smb"); rfl) | ((apply ite_F); (walk_at "smb"); (walk_at "sm")) | ((apply eor_gen); (walk_at "sm"))))
    | ((with_reducible apply eAnd_e); (walk_at "sm"); (first | ((apply ite_F); (walk_at "smb"); rfl) | ((apply ite_T); (walk_at "smb"); (walk_at "sm")) | ((apply eand_gen); (walk_at "sm"))))
    | ((with_reducible apply eIf_e); (walk_at "sm"); (first | ((apply ite_T); (walk_at "smb"); (walk_at "sm")) | ((apply ite_F); (walk_at "smb"); (walk_at "sm"))))
    | ((with_reducible apply sIf_e); (walk_at "sm"); (first | ((apply ite_T); (walk_at "smb"); (walk_at "sm")) | ((apply ite_F); (walk_at "smb"); (walk_at "sm"))))
    | ((with_reducible apply sSeq_e); (walk_at "sm"); (first | with_reducible exact seqK_rt | ((with_reducible apply seqK_nx); (walk_at "sm")) | ((with_reducible refine Eq.trans seqK_rt ?_); rfl)))
    | ((with_reducible apply sRet_eq); (walk_at "sm"))
    | ((with_reducible apply sAsg_eq); (walk_at "sm"); (walk_at "smg"))
    | with_reducible assumption
    | walk_at "smx")
local macro_rules
  | `(tactic| walk_at "smx") => `(tactic| fail "no step")
local macro_rules
  | `(tactic| walk_at "smg") => `(tactic| first
    | ((with_reducible apply gNm_e); ((dsimp only [List.set]) <;> rfl))
    | ((with_reducible apply gTp_e); rfl; ((dsimp only [setAll, List.set]) <;> rfl))
    | rfl)
theorem is_number_ok (d : PyData) (M : Mem) : F_is_number [.dat d] M = some (.dat (.bool (kNum d)), M) := by
  refine mkF_e ?_ rfl
  rw [← knum d]
  show B_is_number [some (.dat d)] M = _
  walk_at "sm"
theorem xwhole_ok (d : PyData) (M : Mem) : F_xwhole [.dat d] M = some (.dat (.bool (kNum d)), M) := by
  refine mkF_e ?_ rfl
  rw [← knum d]
  show B_xwhole [some (.dat d)] M = _
  walk_at "sm"
local macro_rules
  | `(tactic| walk_at "smf") => `(tactic| first | with_reducible exact is_number_ok _ _ | with_reducible exact xwhole_ok _ _)
def prs8 : List Int := [11, 13, 17, 19, 23, 101, 199, 211]
theorem xprime_ok {rest : Mem} {b : Int} {M : Mem} (h : Gd rest b M) (hb : b < 2 ^ 39) : ∃ p M', F_xprime [.cel 1] M = some (ze p, M') ∧ p ∈ prs8 ∧ Gd rest (b + 1) M' := by
  obtain ⟨r, M', e, r1, r2, h'⟩ := draw_g (many := 8) h hb (by omega) (by omega)
  have key : ∃ p, p ∈ prs8 ∧ atI (prs8.map PyData.int) r = some (.int p) := by
    have hk : r.toNat < prs8.length := by show r.toNat < 8; omega
    exact ⟨prs8[r.toNat], List.getElem_mem hk, atI_in (k := r.toNat) (by omega) (by rw [List.getElem?_map, List.getElem?_eq_getElem hk]; rfl)⟩
  obtain ⟨p, hp, e2⟩ := key
  refine ⟨p, M', mkF_e ?_ (h.len h'), hp, h'⟩
  show B_xprime [some (.cel 1)] M = _
  simp only [prs8, List.map] at e2
  walk_at "sm"
def shpD (p k d l : Int) : PyData := .tuple [.int p, .int k, .int d, .int l]
theorem xshape_ok {rest : Mem} {b : Int} {M : Mem} (h : Gd rest b M) (hb : b < 2 ^ 38) : ∃ p k d l M', F_xshape [.cel 1] M = some (.dat (shpD p k d l), M') ∧ p ∈ prs8 ∧ 1 ≤ d ∧ d ≤ 5 ∧ 1 ≤ k ∧ k ≤ d ∧ 0 ≤ l ∧ l < k ∧ Gd rest (b + 4) M' := by
  obtain ⟨p, M1, e1, hp, h1⟩ := xprime_ok h (by omega)
  obtain ⟨d, M2, e2, d1, d2, h2⟩ := draw_g (many := 5) h1 (by omega) (by omega) (by omega)
  obtain ⟨k, M3, e3, k1, k2, h3⟩ := draw_g (many := 1 + d) h2 (by omega) (by omega) (by omega)
  obtain ⟨l, M4, e4, l1, l2, h4⟩ := draw_g (many := 1 + k) h3 (by omega) (by omega) (by omega)
  refine ⟨p, 1 + k, 1 + d, l, M4, mkF_e ?_ (h.len h4), hp, by omega, by omega, by omega, by omega, l1, l2, h4.up (by omega)⟩
  show B_xshape [some (.cel 1), none, none, none] M = _
  unfold shpD
  walk_at "sm"
end Lk09

namespace Lk09
open PySem Sm L2
local macro_rules
  | `(tactic| walk_at "le") => `(tactic| ((try simp only [List.length_cons, List.length_nil, List.length_append, List.length_map]); omega))
local macro_rules
  | `(tactic| walk_at "smb") => `(tactic| first
    | with_reducible assumption
    | with_reducible rfl
    | assumption
    | rfl
    | (simp only [decide_eq_true_eq, decide_eq_false_iff_not, beq_iff_eq, Bool.not_eq_true', Bool.not_eq_false', beq_eq_false_iff_ne, Bool.and_eq_true, Bool.or_eq_true, Bool.not_eq_true, Bool.not_eq_false, ne_eq, Bool.and_eq_false_imp, Bool.or_eq_false_iff]; omega))
local macro_rules
  | `(tactic| walk_at "smf") => `(tactic| fail "no call")
local macro_rules
  | `(tactic| walk_at "sml") => `(tactic| first
    | with_reducible assumption
    | with_reducible exact l_add
    | with_reducible exact l_sub
    | with_reducible exact l_eq
    | with_reducible exact l_ne
    | with_reducible exact l_lt
    | with_reducible exact l_le
    | with_reducible exact l_gt
    | with_reducible exact l_ge
    | with_reducible exact l_eqSS
    | with_reducible exact l_neSS
    | with_reducible exact l_eqBS
    | with_reducible exact l_neBS
    | with_reducible exact l_eqB
    | with_reducible exact l_neB
    | with_reducible exact l_eqS
    | with_reducible exact l_neS
    | with_reducible exact l_neg
    | with_reducible exact isi_int _
    | with_reducible exact isi_bool _
    | with_reducible exact isi_tup _
    | with_reducible exact l_lenL
    | with_reducible exact l_lenT
    | with_reducible exact l_slL
    | with_reducible exact l_slT
    | ((with_reducible apply l_mod); (walk_at "smo"))
    | ((with_reducible apply l_mul); (walk_at "smo"))
    | ((with_reducible apply l_div); (walk_at "smo"); (walk_at "smo"))
    | ((with_reducible apply l_addT); rfl)
    | ((with_reducible apply l_addL); rfl)
    | ((with_reducible apply l_ixL); first | assumption | rfl)
    | ((with_reducible apply l_ixT); first | assumption | rfl)
    | ((with_reducible apply one_eq); (walk_at "sml"))
    | with_reducible assumption
    | rfl)
local macro_rules
  | `(tactic| walk_at "smo") => `(tactic| first | assumption | omega)
local macro_rules
  | `(tactic| walk_at "sm") => `(tactic| first
    | with_reducible assumption
    | with_reducible exact aNil_eq
    | with_reducible exact eC_eq
    | with_reducible exact sNext_eq
    | with_reducible exact eD0_eq
    | ((with_reducible apply eD1_eq); (walk_at "sm"))
    | ((with_reducible apply eC_e); rfl)
    | with_reducible exact oNone_eq
    | ((with_reducible apply eVar_eq); rfl)
    | ((with_reducible apply aCons_eq); (walk_at "sm"); (walk_at "sm"))
    | ((with_reducible apply eOp_eq); (walk_at "sm"); (walk_at "sm"); (walk_at "sml"))
    | ((with_reducible apply eUn_eq); (walk_at "sm"); (walk_at "sml"))
    | ((with_reducible apply eCB_eq); (walk_at "sm"); (walk_at "sml"))
    | ((with_reducible apply eCall_eq); (walk_at "sm"); (first | with_reducible assumption | walk_at "smf"))
    | ((with_reducible apply eTup_e); (walk_at "sm"); rfl; rfl)
    | ((with_reducible apply eLst_e); (walk_at "sm"); rfl; rfl)
    | ((with_reducible apply oSome_eq); (walk_at "sm"))
    | ((with_reducible apply eSl_eq); (walk_at "sm"); (walk_at "sm"); (walk_at "sm"); (walk_at "sml"))
    | ((with_reducible apply eNot_eq); (walk_at "sm"))
    | ((with_reducible apply bNot_eq); (walk_at "sm"))
    | ((with_reducible apply bVal_eq); (walk_at "sm"))
    | ((with_reducible apply bTru_b); (walk_at "sm"))
    | ((with_reducible apply eChain_e); (walk_at "sm"); (walk_at "sm"); (walk_at "sml"); (walk_at "sm"); (walk_at "sml"))
    | ((with_reducible apply eChain3_e); (walk_at "sm"); (walk_at "sm"); (walk_at "sml"); (walk_at "sm"); (walk_at "sml"); (walk_at "sm"); (walk_at "sml"))
    | ((with_reducible apply bOr_e); (walk_at "sm"); (first | ((apply ite_T); (walk_at "smb"); rfl) | ((apply ite_F); (walk_at "smb"); (walk_at "sm")) | ((apply or_gen); (walk_at "sm"))))
    | ((with_reducible apply bAnd_e); (walk_at "sm"); (first | ((apply ite_F); (walk_at "smb"); rfl) | ((apply ite_T); (walk_at "smb"); (walk_at "sm")) | ((apply and_gen); (walk_at "sm"))))
    | ((with_reducible apply eOr_e); (walk_at "sm"); (first | ((apply ite_T); (walk_at "smb"); rfl) | ((apply ite_F); (walk_at "smb"); (walk_at "sm")) | ((apply eor_gen); (walk_at "sm"))))
    | ((with_reducible apply eAnd_e); (walk_at "sm"); (first | ((apply ite_F); (walk_at "smb"); rfl) | ((apply ite_T); (walk_at "smb"); (walk_at "sm")) | ((apply eand_gen); (walk_at "sm"))))
    | ((with_reducible apply eIf_e); (walk_at "sm"); (first | ((apply ite_T); (walk_at "smb"); (walk_at "sm")) | ((apply ite_F); (walk_at "smb"); (walk_at "sm"))))
    | ((with_reducible apply sIf_e); (walk_at "sm"); (first | ((apply ite_T); (walk_at "smb"); (walk_at "sm")) | ((apply ite_F); (walk_at "smb"); (walk_at "sm"))))
    | ((with_reducible apply sSeq_e); (walk_at "sm"); (first | with_reducible exact seqK_rt | ((with_reducible apply seqK_nx); (walk_at "sm")) | ((with_reducible refine Eq.trans seqK_rt ?_); rfl)))
    | ((with_reducible apply sRet_eq); (walk_at "sm"))
    | ((with_reducible apply sAsg_eq); (walk_at "sm"); (walk_at "smg"))
    | with_reducible assumption
    | walk_at "smx")
local macro_rules
  | `(tactic| walk_at "smx") => `(tactic| fail "no step")
local macro_rules
  | `(tactic| walk_at "smg") => `(tactic| first
    | ((with_reducible apply gNm_e); ((dsimp only [List.set]) <;> rfl))
    | ((with_reducible apply gTp_e); rfl; ((dsimp only [setAll, List.set]) <;> rfl))
    | rfl)
local macro_rules
  | `(tactic| walk_at "smf") => `(tactic| first | with_reducible exact is_number_ok _ _ | with_reducible exact xwhole_ok _ _)
theorem boolsOf_map (f : PyData → Bool) : ∀ ds : List PyData, boolsOf (ds.map fun d => .bool (f d)) = some (ds.map f)
  | [] => rfl
  | d :: ds => by simp only [List.map_cons, boolsOf, boolsOf_map f ds, Option.bind_some]
theorem all_map {M : Mem} (f : PyData → Bool) (ds : List PyData) : lift1 dAll M (.dat (.list (ds.map fun d => .bool (f d)))) = some (.dat (.bool (ds.all f))) := by
  simp only [lift1, dAll, boolsOf_map, Option.bind_some]
  rw [List.all_map]; rfl
def prL : List Int := [11, 13, 17, 19, 23, 29, 31, 37, 41, 43, 47, 53, 59, 61, 67, 71, 73, 79, 83, 89, 97, 101, 103, 107, 109, 113, 127, 131, 137, 139, 149, 151, 157, 163, 167, 173, 179, 181, 191, 193, 197, 199, 211]
def prB (i : Int) : Bool := prL.any fun y => i == y
def spPr : PyData → Bool
  | .int i => prB i
  | _ => false
theorem in_prs (i : Int) (M : Mem) : fIn false M (.dat (.int i)) (.dat k_PRIMES) = some (.dat (.bool (prB i))) := by
  have e : k_PRIMES = .tuple (prL.map PyData.int) := rfl
  rw [e]
  have h : ∀ l : List Int, (l.map PyData.int).all flatD = true := by
    intro l; induction l with
    | nil => rfl
    | cons a l ih => simp [flatD]
  have h2 : inD (.int i) (prL.map PyData.int) = prB i := by
    unfold inD prB
    rw [List.any_map]
    apply congrArg (fun f => prL.any f)
    funext y
    simp only [Function.comp, PyData.eqv]
    exact BEq.comm
  simp [fIn, items, flatD, h, h2]
theorem is_prime_ok (d : PyData) (M : Mem) : F_is_prime [.dat d] M = some (.dat (.bool (spPr d)), M) := by
  refine mkF_e ?_ rfl
  show B_is_prime [some (.dat d)] M = _
  have h := in_prs
  cases d <;> first | (walk_at "sm"; done) | skip
  rename_i i
  have h := in_prs i M
  walk_at "sm"
def shB : PyData → Bool
  | .tuple [.int p, .int k, .int d, .int l] => prB p && ((decide (1 ≤ d) && decide (d ≤ 5)) && ((decide (1 ≤ k) && decide (k ≤ d)) && (decide (0 ≤ l) && decide (l < k))))
  | _ => false
theorem shB_nt {d : PyData} (h : kTup d = false) : shB d = false := by cases d <;> first | rfl | cases h
theorem shB_nl {ds : List PyData} (h : ds.length ≠ 4) : shB (.tuple ds) = false := by
  unfold shB
  split
  · rename_i e; cases e; exact absurd rfl h
  · rfl
theorem shB_nn {ds : List PyData} (h : ds.all kNum = false) : shB (.tuple ds) = false := by
  unfold shB
  split
  · rename_i e; cases e; simp [kNum] at h
  · rfl
theorem four {ds : List PyData} (h : ds.length = 4) : ∃ a b c e, ds = [a, b, c, e] := by
  match ds, h with
  | [a, b, c, e], _ => exact ⟨a, b, c, e, rfl⟩
theorem is_shape_ok (d : PyData) (M : Mem) : F_is_shape [.dat d] M = some (.dat (.bool (shB d)), M) := by
  refine mkF_e ?_ rfl
  show B_is_shape [some (.dat d), none, none, none, none, none] M = _
  by_cases ht : kTup d = true
  · cases d <;> first | cases ht | skip
    rename_i ds
    by_cases hl : ds.length = 4
    · have lc : eLc (iDat (eVar 0)) (gNm 5) bYes (eCall F_is_number (aCons (eVar 5) aNil)) [5] [some (.dat (.tuple ds)), none, none, none, none, none] M = some (.dat (.list (ds.map fun d => .bool (kNum d))), M) := by
        refine eLc_eq (M1 := M) (iDat_t rfl) (by omega) (lcL_map (f := fun d => .bool (kNum d)) ds fun d hd => ⟨_, rfl, ?_⟩)
        walk_at "sm"
      have hm := all_map (M := M) kNum ds
      have hl' : (!((ds.length : Int) == 4)) = false := by rw [hl]; rfl
      cases hn : ds.all kNum with
      | false =>
        rw [shB_nn hn]
        rw [hn] at hm
        walk_at "sm"
      | true =>
        rw [hn] at hm
        obtain ⟨a, b, c, e, rfl⟩ := four hl
        · simp only [List.all_cons, List.all_nil, Bool.and_true, Bool.and_eq_true] at hn
          obtain ⟨h1, h2, h3, h4⟩ := hn
          cases a <;> first | cases h1 | skip
          cases b <;> first | cases h2 | skip
          cases c <;> first | cases h3 | skip
          cases e <;> first | cases h4 | skip
          rename_i p k d l
          have hp := is_prime_ok (.int p) M
          unfold shB
          walk_at "sm"
    · rw [shB_nl hl]
      have hl' : (!((ds.length : Int) == 4)) = true := by
        rw [Bool.not_eq_true', beq_eq_false_iff_ne]; omega
      walk_at "sm"
  · have ht' : kTup d = false := by simpa using ht
    rw [shB_nt ht']
    have hh : (!kTup d) = true := by rw [ht']; rfl
    walk_at "sm"
end Lk09

namespace Lk09
open PySem Sm L2
local macro_rules
  | `(tactic| walk_at "le") => `(tactic| ((try simp only [List.length_cons, List.length_nil, List.length_append, List.length_map]); omega))
local macro_rules
  | `(tactic| walk_at "smb") => `(tactic| first
    | with_reducible assumption
    | with_reducible rfl
    | assumption
    | rfl
    | (simp only [decide_eq_true_eq, decide_eq_false_iff_not, beq_iff_eq, Bool.not_eq_true', Bool.not_eq_false', beq_eq_false_iff_ne, Bool.and_eq_true, Bool.or_eq_true, Bool.not_eq_true, Bool.not_eq_false, ne_eq, Bool.and_eq_false_imp, Bool.or_eq_false_iff]; omega))
local macro_rules
  | `(tactic| walk_at "smf") => `(tactic| fail "no call")
local macro_rules
  | `(tactic| walk_at "sml") => `(tactic| first
    | with_reducible assumption
    | with_reducible exact l_add
    | with_reducible exact l_sub
    | with_reducible exact l_eq
    | with_reducible exact l_ne
    | with_reducible exact l_lt
    | with_reducible exact l_le
    | with_reducible exact l_gt
    | with_reducible exact l_ge
    | with_reducible exact l_eqSS
    | with_reducible exact l_neSS
    | with_reducible exact l_eqBS
    | with_reducible exact l_neBS
    | with_reducible exact l_eqB
    | with_reducible exact l_neB
    | with_reducible exact l_eqS
    | with_reducible exact l_neS
    | with_reducible exact l_neg
    | with_reducible exact isi_int _
    | with_reducible exact isi_bool _
    | with_reducible exact isi_tup _
    | with_reducible exact l_lenL
    | with_reducible exact l_lenT
    | with_reducible exact l_slL
    | with_reducible exact l_slT
    | ((with_reducible apply l_mod); (walk_at "smo"))
    | ((with_reducible apply l_mul); (walk_at "smo"))
    | ((with_reducible apply l_div); (walk_at "smo"); (walk_at "smo"))
    | ((with_reducible apply l_addT); rfl)
    | ((with_reducible apply l_addL); rfl)
    | ((with_reducible apply l_ixL); first | assumption | rfl)
    | ((with_reducible apply l_ixT); first | assumption | rfl)
    | ((with_reducible apply one_eq); (walk_at "sml"))
    | with_reducible assumption
    | rfl)
local macro_rules
  | `(tactic| walk_at "smo") => `(tactic| first | assumption | omega)
local macro_rules
  | `(tactic| walk_at "sm") => `(tactic| first
    | with_reducible assumption
    | with_reducible exact aNil_eq
    | with_reducible exact eC_eq
    | with_reducible exact sNext_eq
    | with_reducible exact eD0_eq
    | ((with_reducible apply eD1_eq); (walk_at "sm"))
    | ((with_reducible apply eC_e); rfl)
    | with_reducible exact oNone_eq
    | ((with_reducible apply eVar_eq); rfl)
    | ((with_reducible apply aCons_eq); (walk_at "sm"); (walk_at "sm"))
    | ((with_reducible apply eOp_eq); (walk_at "sm"); (walk_at "sm"); (walk_at "sml"))
    | ((with_reducible apply eUn_eq); (walk_at "sm"); (walk_at "sml"))
    | ((with_reducible apply eCB_eq); (walk_at "sm"); (walk_at "sml"))
    | ((with_reducible apply eCall_eq); (walk_at "sm"); (first | with_reducible assumption | walk_at "smf"))
    | ((with_reducible apply eTup_e); (walk_at "sm"); rfl; rfl)
    | ((with_reducible apply eLst_e); (walk_at "sm"); rfl; rfl)
    | ((with_reducible apply oSome_eq); (walk_at "sm"))
    | ((with_reducible apply eSl_eq); (walk_at "sm"); (walk_at "sm"); (walk_at "sm"); (walk_at "sml"))
    | ((with_reducible apply eNot_eq); (walk_at "sm"))
    | ((with_reducible apply bNot_eq); (walk_at "sm"))
    | ((with_reducible apply bVal_eq); (walk_at "sm"))
    | ((with_reducible apply bTru_b); (walk_at "sm"))
    | ((with_reducible apply eChain_e); (walk_at "sm"); (walk_at "sm"); (walk_at "sml"); (walk_at "sm"); (walk_at "sml"))
    | ((with_reducible apply eChain3_e); (walk_at "sm"); (walk_at "sm"); (walk_at "sml"); (walk_at "sm"); (walk_at "sml"); (walk_at "sm"); (walk_at "sml"))
    | ((with_reducible apply bOr_e); (walk_at "sm"); (first | ((apply ite_T); (walk_at "smb"); rfl) | ((apply ite_F); (walk_at "smb"); (walk_at "sm")) | ((apply or_gen); (walk_at "sm"))))
    | ((with_reducible apply bAnd_e); (walk_at "sm"); (first | ((apply ite_F); (walk_at "smb"); rfl) | ((apply ite_T); (walk_at "smb"); (walk_at "sm")) | ((apply and_gen); (walk_at "sm"))))
    | ((with_reducible apply eOr_e); (walk_at "sm"); (first | ((apply ite_T); (walk_at "smb"); rfl) | ((apply ite_F); (walk_at "smb"); (walk_at "sm")) | ((apply eor_gen); (walk_at "sm"))))
    | ((with_reducible apply eAnd_e); (walk_at "sm"); (first | ((apply ite_F); (walk_at "smb"); rfl) | ((apply ite_T); (walk_at "smb"); (walk_at "sm")) | ((apply eand_gen); (walk_at "sm"))))
    | ((with_reducible apply eIf_e); (walk_at "sm"); (first | ((apply ite_T); (walk_at "smb"); (walk_at "sm")) | ((apply ite_F); (walk_at "smb"); (walk_at "sm"))))
    | ((with_reducible apply sIf_e); (walk_at "sm"); (first | ((apply ite_T); (walk_at "smb"); (walk_at "sm")) | ((apply ite_F); (walk_at "smb"); (walk_at "sm"))))
    | ((with_reducible apply sSeq_e); (walk_at "sm"); (first | with_reducible exact seqK_rt | ((with_reducible apply seqK_nx); (walk_at "sm")) | ((with_reducible refine Eq.trans seqK_rt ?_); rfl)))
    | ((with_reducible apply sRet_eq); (walk_at "sm"))
    | ((with_reducible apply sAsg_eq); (walk_at "sm"); (walk_at "smg"))
    | with_reducible assumption
    | walk_at "smx")
local macro_rules
  | `(tactic| walk_at "smx") => `(tactic| fail "no step")
local macro_rules
  | `(tactic| walk_at "smg") => `(tactic| first
    | ((with_reducible apply gNm_e); ((dsimp only [List.set]) <;> rfl))
    | ((with_reducible apply gTp_e); rfl; ((dsimp only [setAll, List.set]) <;> rfl))
    | rfl)
local macro_rules
  | `(tactic| walk_at "smf") => `(tactic| first | with_reducible exact is_number_ok _ _ | with_reducible exact xwhole_ok _ _)
theorem xprs_map (M : Mem) : (List.range 201).map (fun n : Nat => B_xis_prime_2 [some (ze (11 + (n : Int))), none] M) = (List.range 201).map (fun n : Nat => some (.rt (.dat (.bool (prB (11 + (n : Int))))) M)) := by kernel_rfl
theorem prB_out {i : Int} (h : ¬ (11 ≤ i ∧ i ≤ 211)) : prB i = false := by
  have hb : ∀ y ∈ prL, 11 ≤ y ∧ y ≤ 211 := by decide
  unfold prB
  rw [List.any_eq_false]
  intro y hy
  have := hb y hy
  rw [Bool.not_eq_true, beq_eq_false_iff_ne]
  intro e; subst e; exact h this
theorem xis_prime_ok (d : PyData) (M : Mem) : F_xis_prime [.dat d] M = some (.dat (.bool (spPr d)), M) := by
  refine mkF_e ?_ rfl
  show B_xis_prime [some (.dat d), none] M = _
  cases d <;> first | (walk_at "sm"; done) | skip
  rename_i i
  by_cases h : 11 ≤ i ∧ i ≤ 211
  · have hm := map_at (xprs_map M) (x := (i - 11).toNat) (List.mem_range.mpr (by omega))
    have e : 11 + (((i - 11).toNat : Nat) : Int) = i := by omega
    rw [e] at hm
    refine sSeq_nx (M1 := M) (ρ1 := [some (.dat (.int i)), none]) ?_ hm
    walk_at "sm"
  · show _ = some (Ctl.rt (.dat (.bool (prB i))) M)
    rw [prB_out h]
    walk_at "sm"
local macro_rules
  | `(tactic| walk_at "smf") => `(tactic| with_reducible exact xis_prime_ok _ _)
theorem shB_np {a b c e : PyData} (h : spPr a = false) : shB (.tuple [a, b, c, e]) = false := by
  unfold shB
  split
  · rename_i q; cases q
    have : prB _ = false := h
    rw [this]; rfl
  · rfl
theorem xdue_ok (d : PyData) (M : Mem) : F_xdue [.dat d] M = some (.dat (.bool (shB d)), M) := by
  refine mkF_e ?_ rfl
  show B_xdue [some (.dat d), none, none, none, none] M = _
  by_cases ht : kTup d = true
  · cases d <;> first | cases ht | skip
    rename_i ds
    by_cases hl : ds.length = 4
    · obtain ⟨a, b, c, e, rfl⟩ := four hl
      cases hp : spPr a with
      | false =>
        rw [shB_np hp]
        have hp' : (!spPr a) = true := by rw [hp]; rfl
        walk_at "sm"
      | true =>
        have hp' : (!spPr a) = false := by rw [hp]; rfl
        cases hn : kNum c && kNum b && kNum e with
        | false =>
          rw [shB_nn (by
            simp only [List.all_cons, List.all_nil, Bool.and_true]
            cases h1 : kNum a <;> cases h2 : kNum b <;> cases h3 : kNum c <;> cases h4 : kNum e <;> simp_all)]
          have hv : (!kNum c || (!kNum b || !kNum e)) = true := by
            cases h2 : kNum b <;> cases h3 : kNum c <;> cases h4 : kNum e <;> simp_all
          refine sSeq_nx (ρ1 := [some (.dat (.tuple [a, b, c, e])), none, none, none, none]) (M1 := M) ?_ ?_
          · walk_at "sm"
          · refine sSeq_nx (ρ1 := [some (.dat (.tuple [a, b, c, e])), some (.dat a), some (.dat b), some (.dat c), some (.dat e)]) (M1 := M) rfl ?_
            refine sSeq_rt (sIf_t (M1 := M) ?_ rfl)
            rw [← hv]
            refine bOr_e (M1 := M) (v := !kNum c) ?_ (or_gen (bOr_e (M1 := M) (v := !kNum b) ?_ (or_gen ?_)))
            · walk_at "sm"
            · walk_at "sm"
            · walk_at "sm"
        | true =>
          simp only [Bool.and_eq_true] at hn
          obtain ⟨⟨h3, h2⟩, h4⟩ := hn
          cases a <;> first | cases hp | skip
          cases b <;> first | cases h2 | skip
          cases c <;> first | cases h3 | skip
          cases e <;> first | cases h4 | skip
          rename_i p k d l
          have hp2 : prB p = true := hp
          have fin : shB (.tuple [.int p, .int k, .int d, .int l]) = ((decide (1 ≤ k) && (decide (k ≤ d) && decide (d ≤ 5))) && (decide (0 ≤ l) && decide (l < k))) := by
            unfold shB
            dsimp only
            rw [hp2, Bool.eq_iff_iff]
            simp only [Bool.and_eq_true, decide_eq_true_eq, true_and]
            omega
          rw [fin]
          walk_at "sm"
    · rw [shB_nl hl]
      have hl' : (!((ds.length : Int) == 4)) = true := by
        rw [Bool.not_eq_true', beq_eq_false_iff_ne]; omega
      walk_at "sm"
  · have ht' : kTup d = false := by simpa using ht
    rw [shB_nt ht']
    have hh : (!kTup d) = true := by rw [ht']; rfl
    walk_at "sm"
end Lk09

namespace Lk09
open PySem Sm L2
local macro_rules
  | `(tactic| walk_at "le") => `(tactic| ((try simp only [List.length_cons, List.length_nil, List.length_append, List.length_map]); omega))
local macro_rules
  | `(tactic| walk_at "smb") => `(tactic| first
    | with_reducible assumption
    | with_reducible rfl
    | assumption
    | rfl
    | (simp only [decide_eq_true_eq, decide_eq_false_iff_not, beq_iff_eq, Bool.not_eq_true', Bool.not_eq_false', beq_eq_false_iff_ne, Bool.and_eq_true, Bool.or_eq_true, Bool.not_eq_true, Bool.not_eq_false, ne_eq, Bool.and_eq_false_imp, Bool.or_eq_false_iff]; omega))
local macro_rules
  | `(tactic| walk_at "smf") => `(tactic| fail "no call")
local macro_rules
  | `(tactic| walk_at "sml") => `(tactic| first
    | with_reducible assumption
    | with_reducible exact l_add
    | with_reducible exact l_sub
    | with_reducible exact l_eq
    | with_reducible exact l_ne
    | with_reducible exact l_lt
    | with_reducible exact l_le
    | with_reducible exact l_gt
    | with_reducible exact l_ge
    | with_reducible exact l_eqSS
    | with_reducible exact l_neSS
    | with_reducible exact l_eqBS
    | with_reducible exact l_neBS
    | with_reducible exact l_eqB
    | with_reducible exact l_neB
    | with_reducible exact l_eqS
    | with_reducible exact l_neS
    | with_reducible exact l_neg
    | with_reducible exact isi_int _
    | with_reducible exact isi_bool _
    | with_reducible exact isi_tup _
    | with_reducible exact l_lenL
    | with_reducible exact l_lenT
    | with_reducible exact l_slL
    | with_reducible exact l_slT
    | ((with_reducible apply l_mod); (walk_at "smo"))
    | ((with_reducible apply l_mul); (walk_at "smo"))
    | ((with_reducible apply l_div); (walk_at "smo"); (walk_at "smo"))
    | ((with_reducible apply l_addT); rfl)
    | ((with_reducible apply l_addL); rfl)
    | ((with_reducible apply l_ixL); first | assumption | rfl)
    | ((with_reducible apply l_ixT); first | assumption | rfl)
    | ((with_reducible apply one_eq); (walk_at "sml"))
    | with_reducible assumption
    | rfl)
local macro_rules
  | `(tactic| walk_at "smo") => `(tactic| first | assumption | omega)
local macro_rules
  | `(tactic| walk_at "sm") => `(tactic| first
    | with_reducible assumption
    | with_reducible exact aNil_eq
    | with_reducible exact eC_eq
    | with_reducible exact sNext_eq
    | with_reducible exact eD0_eq
    | ((with_reducible apply eD1_eq); (walk_at "sm"))
    | ((with_reducible apply eC_e); rfl)
    | with_reducible exact oNone_eq
    | ((with_reducible apply eVar_eq); rfl)
    | ((with_reducible apply aCons_eq); (walk_at "sm"); (walk_at "sm"))
    | ((with_reducible apply eOp_eq); (walk_at "sm"); (walk_at "sm"); (walk_at "sml"))
    | ((with_reducible apply eUn_eq); (walk_at "sm"); (walk_at "sml"))
    | ((with_reducible apply eCB_eq); (walk_at "sm"); (walk_at "sml"))
    | ((with_reducible apply eCall_eq); (walk_at "sm"); (first | with_reducible assumption | walk_at "smf"))
    | ((with_reducible apply eTup_e); (walk_at "sm"); rfl; rfl)
    | ((with_reducible apply eLst_e); (walk_at "sm"); rfl; rfl)
    | ((with_reducible apply oSome_eq); (walk_at "sm"))
    | ((with_reducible apply eSl_eq); (walk_at "sm"); (walk_at "sm"); (walk_at "sm"); (walk_at "sml"))
    | ((with_reducible apply eNot_eq); (walk_at "sm"))
    | ((with_reducible apply bNot_eq); (walk_at "sm"))
    | ((with_reducible apply bVal_eq); (walk_at "sm"))
    | ((with_reducible apply bTru_b); (walk_at "sm"))
    | ((with_reducible apply eChain_e); (walk_at "sm"); (walk_at "sm"); (walk_at "sml"); (walk_at "sm"); (walk_at "sml"))
    | ((with_reducible apply eChain3_e); (walk_at "sm"); (walk_at "sm"); (walk_at "sml"); (walk_at "sm"); (walk_at "sml"); (walk_at "sm"); (walk_at "sml"))
    | ((with_reducible apply bOr_e); (walk_at "sm"); (first | ((apply ite_T); (walk_at "smb"); rfl) | ((apply ite_F); (walk_at "smb"); (walk_at "sm")) | ((apply or_gen); (walk_at "sm"))))
    | ((with_reducible apply bAnd_e); (walk_at "sm"); (first | ((apply ite_F); (walk_at "smb"); rfl) | ((apply ite_T); (walk_at "smb"); (walk_at "sm")) | ((apply and_gen); (walk_at "sm"))))
    | ((with_reducible apply eOr_e); (walk_at "sm"); (first | ((apply ite_T); (walk_at "smb"); rfl) | ((apply ite_F); (walk_at "smb"); (walk_at "sm")) | ((apply eor_gen); (walk_at "sm"))))
    | ((with_reducible apply eAnd_e); (walk_at "sm"); (first | ((apply ite_F); (walk_at "smb"); rfl) | ((apply ite_T); (walk_at "smb"); (walk_at "sm")) | ((apply eand_gen); (walk_at "sm"))))
    | ((with_reducible apply eIf_e); (walk_at "sm"); (first | ((apply ite_T); (walk_at "smb"); (walk_at "sm")) | ((apply ite_F); (walk_at "smb"); (walk_at "sm"))))
    | ((with_reducible apply sIf_e); (walk_at "sm"); (first | ((apply ite_T); (walk_at "smb"); (walk_at "sm")) | ((apply ite_F); (walk_at "smb"); (walk_at "sm"))))
    | ((with_reducible apply sSeq_e); (walk_at "sm"); (first | with_reducible exact seqK_rt | ((with_reducible apply seqK_nx); (walk_at "sm")) | ((with_reducible refine Eq.trans seqK_rt ?_); rfl)))
    | ((with_reducible apply sRet_eq); (walk_at "sm"))
    | ((with_reducible apply sAsg_eq); (walk_at "sm"); (walk_at "smg"))
    | with_reducible assumption
    | walk_at "smx")
local macro_rules
  | `(tactic| walk_at "smx") => `(tactic| fail "no step")
local macro_rules
  | `(tactic| walk_at "smg") => `(tactic| first
    | ((with_reducible apply gNm_e); ((dsimp only [List.set]) <;> rfl))
    | ((with_reducible apply gTp_e); rfl; ((dsimp only [setAll, List.set]) <;> rfl))
    | rfl)
/-! ### what repr takes -/
structure Ok (k w : Nat) (x : PyData) : Prop where
  sh : x.showable = true
  dp : x.depth ≤ k
  wl : wt x ≤ w
  mx : (!x.hasDict || !hasList x) = true
structure Pl (k w : Nat) (x : PyData) : Prop where
  sh : x.showable = true
  dp : x.depth ≤ k
  wl : wt x ≤ w
  nd : x.hasDict = false
  nl : hasList x = false
theorem Pl.ok {k w : Nat} {x : PyData} (h : Pl k w x) : Ok k w x := ⟨h.sh, h.dp, h.wl, by rw [h.nd]; rfl⟩
theorem Pl.up {k w k' w' : Nat} {x : PyData} (h : Pl k w x) (hk : k ≤ k') (hw : w ≤ w') : Pl k' w' x := ⟨h.sh, Nat.le_trans h.dp hk, Nat.le_trans h.wl hw, h.nd, h.nl⟩
theorem Ok.up {k w k' w' : Nat} {x : PyData} (h : Ok k w x) (hk : k ≤ k') (hw : w ≤ w') : Ok k' w' x := ⟨h.sh, Nat.le_trans h.dp hk, Nat.le_trans h.wl hw, h.mx⟩
theorem Ok.repr {k w : Nat} {x : PyData} {M : Mem} (h : Ok k w x) (hk : k ≤ 64) (hw : w ≤ 1000000) : lift1 dRepr M (.dat x) = some (.dat (.str x.shown)) := by
  refine l_repr ?_
  have h1 : x.depth ≤ 64 := Nat.le_trans h.dp hk
  have h2 : wt x ≤ 1000000 := Nat.le_trans h.wl hw
  simp only [h.sh, h1, h2, h.mx, decide_true, Bool.and_self]
theorem pl_int {i : Int} (h : -(2 ^ 128) < i ∧ i < 2 ^ 128) : Pl 0 1921 (.int i) := by
  have h2 : i.natAbs < 2 ^ 128 := by omega
  have h3 : i.natAbs.log2 < 1920 := by
    by_cases hz : i.natAbs = 0
    · rw [hz]; decide
    · exact Nat.lt_trans ((Nat.log2_lt hz).mpr h2) (by decide)
  refine ⟨?_, ?_, ?_, ?_, ?_⟩ <;> simp [PyData.showable, PyData.depth, wt, PyData.hasDict, hasList, h3]
theorem pl_none : Pl 0 1921 .none := by refine ⟨?_, ?_, ?_, ?_, ?_⟩ <;> simp [PyData.showable, PyData.depth, wt, PyData.hasDict, hasList]
theorem pl_bool {b : Bool} : Pl 0 1921 (.bool b) := by refine ⟨?_, ?_, ?_, ?_, ?_⟩ <;> simp [PyData.showable, PyData.depth, wt, PyData.hasDict, hasList]
theorem show_app : ∀ xs ys : List PyData, PyData.showableAll (xs ++ ys) = (PyData.showableAll xs && PyData.showableAll ys)
  | [], ys => by simp [PyData.showableAll]
  | x :: xs, ys => by simp [PyData.showableAll, show_app xs ys, Bool.and_assoc]
theorem depth_app : ∀ xs ys : List PyData, PyData.depthAll (xs ++ ys) = max (PyData.depthAll xs) (PyData.depthAll ys)
  | [], ys => by simp [PyData.depthAll]
  | x :: xs, ys => by simp [PyData.depthAll, depth_app xs ys, Nat.max_assoc]
theorem wt_app : ∀ xs ys : List PyData, wtAll (xs ++ ys) = wtAll xs + wtAll ys
  | [], ys => by simp [wtAll]
  | x :: xs, ys => by simp only [List.cons_append, wtAll, wt_app xs ys]; omega
theorem dict_app : ∀ xs ys : List PyData, PyData.hasDictAll (xs ++ ys) = (PyData.hasDictAll xs || PyData.hasDictAll ys)
  | [], ys => by simp [PyData.hasDictAll]
  | x :: xs, ys => by simp [PyData.hasDictAll, dict_app xs ys, Bool.or_assoc]
theorem list_app : ∀ xs ys : List PyData, hasListAll (xs ++ ys) = (hasListAll xs || hasListAll ys)
  | [], ys => by simp [hasListAll]
  | x :: xs, ys => by simp [hasListAll, list_app xs ys, Bool.or_assoc]
structure PlA (k w : Nat) (xs : List PyData) : Prop where
  sh : PyData.showableAll xs = true
  dp : PyData.depthAll xs ≤ k
  wl : wtAll xs ≤ xs.length * (w + 2)
  nd : PyData.hasDictAll xs = false
  nl : hasListAll xs = false
theorem pl_all {k w : Nat} : ∀ {xs : List PyData}, (∀ x ∈ xs, Pl k w x) → PlA k w xs
  | [], _ => ⟨rfl, Nat.zero_le _, Nat.zero_le _, rfl, rfl⟩
  | x :: xs, h => by
    have h1 := h x List.mem_cons_self
    have h2 := pl_all fun y hy => h y (List.mem_cons_of_mem _ hy)
    refine ⟨?_, ?_, ?_, ?_, ?_⟩
    · simp [PyData.showableAll, h1.sh, h2.sh]
    · simp only [PyData.depthAll]; exact Nat.max_le.mpr ⟨h1.dp, h2.dp⟩
    · simp only [wtAll, List.length_cons, Nat.add_mul]
      have := h1.wl
      have := h2.wl
      omega
    · simp [PyData.hasDictAll, h1.nd, h2.nd]
    · simp [hasListAll, h1.nl, h2.nl]
theorem pl_tup {k w : Nat} {xs : List PyData} (h : ∀ x ∈ xs, Pl k w x) : Pl (k + 1) (3 + xs.length * (w + 2)) (.tuple xs) := by
  have p := pl_all h
  refine ⟨?_, ?_, ?_, ?_, ?_⟩
  · simp [PyData.showable, p.sh]
  · simp only [PyData.depth]; have := p.dp; omega
  · simp only [wt]; have := p.wl; omega
  · simp [PyData.hasDict, p.nd]
  · simp [hasList, p.nl]
theorem ok_lst {k w : Nat} {xs : List PyData} (h : ∀ x ∈ xs, Pl k w x) : Ok (k + 1) (2 + xs.length * (w + 2)) (.list xs) := by
  have p := pl_all h
  refine ⟨?_, ?_, ?_, ?_⟩
  · simp [PyData.showable, p.sh]
  · simp only [PyData.depth]; have := p.dp; omega
  · simp only [wt]; have := p.wl; omega
  · simp [PyData.hasDict, p.nd]
theorem ok_mix {k w : Nat} {xs ys : List PyData} {x : PyData} (h1 : ∀ x ∈ xs, Pl k w x) (h2 : ∀ x ∈ ys, Pl k w x) (h : Ok k w x) : Ok (k + 1) (3 + (xs.length + ys.length + 1) * (w + 2)) (.tuple (xs ++ x :: ys)) := by
  have p := pl_all h1
  have q := pl_all h2
  refine ⟨?_, ?_, ?_, ?_⟩
  · simp [PyData.showable, show_app, PyData.showableAll, p.sh, q.sh, h.sh]
  · simp only [PyData.depth, depth_app, PyData.depthAll]; have := p.dp; have := q.dp; have := h.dp; omega
  · simp only [wt, wt_app, wtAll, Nat.add_mul]; have := p.wl; have := q.wl; have := h.wl; omega
  · have e := h.mx
    simp only [PyData.hasDict, hasList, dict_app, list_app, PyData.hasDictAll, hasListAll, p.nd, q.nd, p.nl, q.nl, Bool.false_or, Bool.or_false]
    exact e
theorem ints_pl {zs : List Int} (h : ∀ z ∈ zs, -(2 ^ 128) < z ∧ z < 2 ^ 128) : ∀ x ∈ zs.map PyData.int, Pl 0 1921 x := by
  intro x hx
  obtain ⟨z, hz, rfl⟩ := List.mem_map.mp hx
  exact pl_int (h z hz)
/-! ### odd things -/
def oddL (p : Int) : List PyData := [.none, .bool true, .bool false, .int (-1), .int p, .int 0, .int 1, .int (10 ^ 29), .str (Str.ofString ""), .str (Str.ofString "1"), .tuple [], .tuple [.int 0], .list [], .list [.int 0], .dict [], .dict [(.str (Str.ofString "a"), .int 1)], .int (p - 1), .tuple [.tuple [.int 0]]]
theorem int_ok {i : Int} (h : -(2 ^ 128) < i ∧ i < 2 ^ 128) : Ok 2 10000 (.int i) := (pl_int h).ok.up (by omega) (by omega)
theorem str_ok {x : Str} (h : (reprText x).length ≤ 10000) : Ok 2 10000 (.str x) := by
  refine ⟨?_, ?_, ?_, ?_⟩ <;> simp [PyData.showable, PyData.depth, wt, PyData.hasDict, hasList, h]
theorem s0 : (0 : Nat).log2 < 1920 := by decide
theorem s1 : (1 : Nat).log2 < 1920 := by decide
theorem odd_all {p : Int} (hp : -1000 ≤ p ∧ p ≤ 1000) : ∀ x ∈ oddL p, Ok 2 10000 x := by
  intro x hx
  simp only [oddL, List.mem_cons, List.not_mem_nil, or_false] at hx
  rcases hx with rfl | rfl | rfl | rfl | rfl | rfl | rfl | rfl | rfl | rfl | rfl | rfl | rfl | rfl | rfl | rfl | rfl | rfl
  · exact pl_none.ok.up (by omega) (by omega)
  · exact pl_bool.ok.up (by omega) (by omega)
  · exact pl_bool.ok.up (by omega) (by omega)
  · exact int_ok (by decide)
  · exact int_ok (by omega)
  · exact int_ok (by decide)
  · exact int_ok (by decide)
  · exact int_ok (by decide)
  · exact str_ok (by decide +kernel)
  · exact str_ok (by decide +kernel)
  · exact (pl_tup (k := 0) (w := 1921) (xs := []) (by intro x h; cases h)).ok.up (by decide) (by decide)
  · exact (pl_tup (k := 0) (w := 1921) (xs := [0].map PyData.int) (ints_pl (by decide))).ok.up (by decide) (by decide)
  · exact (ok_lst (k := 0) (w := 1921) (xs := []) (by intro x h; cases h)).up (by decide) (by decide)
  · exact (ok_lst (k := 0) (w := 1921) (xs := [0].map PyData.int) (ints_pl (by decide))).up (by decide) (by decide)
  · refine ⟨?_, ?_, ?_, ?_⟩ <;> simp [PyData.showable, PyData.showableKv, PyData.depth, PyData.depthKv, wt, wtKv, PyData.hasDict, hasList, hasListKv]
  · have h : (reprText (Str.ofString "a")).length ≤ 1000 := by decide +kernel
    refine ⟨?_, ?_, ?_, ?_⟩
    · simp [PyData.showable, PyData.showableKv, s1]
    · simp [PyData.depth, PyData.depthKv]
    · simp only [wt, wtKv]
      generalize (reprText (Str.ofString "a")).length = n at h ⊢
      omega
    · simp [PyData.hasDict, hasList, hasListKv]
  · exact int_ok (by omega)
  · refine (pl_tup (k := 1) (w := 1926) (xs := [.tuple [.int 0]]) ?_).ok.up (by decide) (by decide)
    intro x hx
    rw [List.mem_singleton] at hx
    subst hx
    exact pl_tup (k := 0) (w := 1921) (xs := [0].map PyData.int) (ints_pl (by decide))
theorem at_mem {α : Type} {xs : List α} {r : Int} {n : Nat} (hn : xs.length = n) (h1 : 0 ≤ r) (h2 : r < (n : Int)) : ∃ x, x ∈ xs ∧ atI xs r = some x := by
  have hk : r.toNat < xs.length := by omega
  exact ⟨xs[r.toNat], List.getElem_mem hk, atI_in (k := r.toNat) (by omega) (List.getElem?_eq_getElem hk)⟩
theorem xodd_ok {rest : Mem} {b p : Int} {M : Mem} (h : Gd rest b M) (hb : b < 2 ^ 38) (hp : -1000 ≤ p ∧ p ≤ 1000) : ∃ x M', F_xodd [.cel 1, ze p] M = some (.dat x, M') ∧ Ok 2 10000 x ∧ Gd rest (b + 1) M' := by
  obtain ⟨r, M', e, r1, r2, h'⟩ := draw_g (many := 18) h (by omega) (by omega) (by omega)
  obtain ⟨x, hx, e2⟩ := at_mem (xs := oddL p) (n := 18) rfl r1 r2
  refine ⟨x, M', mkF_e ?_ (h.len h'), odd_all hp x hx, h'⟩
  show B_xodd [some (.cel 1), some (ze p), none] M = _
  walk_at "sm"
end Lk09

namespace Lk09
open PySem Sm L2
local macro_rules
  | `(tactic| walk_at "le") => `(tactic| ((try simp only [List.length_cons, List.length_nil, List.length_append, List.length_map]); omega))
local macro_rules
  | `(tactic| walk_at "smb") => `(tactic| first
    | with_reducible assumption
    | with_reducible rfl
    | assumption
    | rfl
    | (simp only [decide_eq_true_eq, decide_eq_false_iff_not, beq_iff_eq, Bool.not_eq_true', Bool.not_eq_false', beq_eq_false_iff_ne, Bool.and_eq_true, Bool.or_eq_true, Bool.not_eq_true, Bool.not_eq_false, ne_eq, Bool.and_eq_false_imp, Bool.or_eq_false_iff]; omega))
local macro_rules
  | `(tactic| walk_at "smf") => `(tactic| fail "no call")
local macro_rules
  | `(tactic| walk_at "sml") => `(tactic| first
    | with_reducible assumption
    | with_reducible exact l_add
    | with_reducible exact l_sub
    | with_reducible exact l_eq
    | with_reducible exact l_ne
    | with_reducible exact l_lt
    | with_reducible exact l_le
    | with_reducible exact l_gt
    | with_reducible exact l_ge
    | with_reducible exact l_eqSS
    | with_reducible exact l_neSS
    | with_reducible exact l_eqBS
    | with_reducible exact l_neBS
    | with_reducible exact l_eqB
    | with_reducible exact l_neB
    | with_reducible exact l_eqS
    | with_reducible exact l_neS
    | with_reducible exact l_neg
    | with_reducible exact isi_int _
    | with_reducible exact isi_bool _
    | with_reducible exact isi_tup _
    | with_reducible exact l_lenL
    | with_reducible exact l_lenT
    | with_reducible exact l_slL
    | with_reducible exact l_slT
    | ((with_reducible apply l_mod); (walk_at "smo"))
    | ((with_reducible apply l_mul); (walk_at "smo"))
    | ((with_reducible apply l_div); (walk_at "smo"); (walk_at "smo"))
    | ((with_reducible apply l_addT); rfl)
    | ((with_reducible apply l_addL); rfl)
    | ((with_reducible apply l_ixL); first | assumption | rfl)
    | ((with_reducible apply l_ixT); first | assumption | rfl)
    | ((with_reducible apply one_eq); (walk_at "sml"))
    | with_reducible assumption
    | rfl)
local macro_rules
  | `(tactic| walk_at "smo") => `(tactic| first | assumption | omega)
local macro_rules
  | `(tactic| walk_at "sm") => `(tactic| first
    | with_reducible assumption
    | with_reducible exact aNil_eq
    | with_reducible exact eC_eq
    | with_reducible exact sNext_eq
    | with_reducible exact eD0_eq
    | ((with_reducible apply eD1_eq); (walk_at "sm"))
    | ((with_reducible apply eC_e); rfl)
    | with_reducible exact oNone_eq
    | ((with_reducible apply eVar_eq); rfl)
    | ((with_reducible apply aCons_eq); (walk_at "sm"); (walk_at "sm"))
    | ((with_reducible apply eOp_eq); (walk_at "sm"); (walk_at "sm"); (walk_at "sml"))
    | ((with_reducible apply eUn_eq); (walk_at "sm"); (walk_at "sml"))
    | ((with_reducible apply eCB_eq); (walk_at "sm"); (walk_at "sml"))
    | ((with_reducible apply eCall_eq); (walk_at "sm"); (first | with_reducible assumption | walk_at "smf"))
    | ((with_reducible apply eTup_e); (walk_at "sm"); rfl; rfl)
    | ((with_reducible apply eLst_e); (walk_at "sm"); rfl; rfl)
    | ((with_reducible apply oSome_eq); (walk_at "sm"))
    | ((with_reducible apply eSl_eq); (walk_at "sm"); (walk_at "sm"); (walk_at "sm"); (walk_at "sml"))
    | ((with_reducible apply eNot_eq); (walk_at "sm"))
    | ((with_reducible apply bNot_eq); (walk_at "sm"))
    | ((with_reducible apply bVal_eq); (walk_at "sm"))
    | ((with_reducible apply bTru_b); (walk_at "sm"))
    | ((with_reducible apply eChain_e); (walk_at "sm"); (walk_at "sm"); (walk_at "sml"); (walk_at "sm"); (walk_at "sml"))
    | ((with_reducible apply eChain3_e); (walk_at "sm"); (walk_at "sm"); (walk_at "sml"); (walk_at "sm"); (walk_at "sml"); (walk_at "sm"); (walk_at "sml"))
    | ((with_reducible apply bOr_e); (walk_at "sm"); (first | ((apply ite_T); (walk_at "smb"); rfl) | ((apply ite_F); (walk_at "smb"); (walk_at "sm")) | ((apply or_gen); (walk_at "sm"))))
    | ((with_reducible apply bAnd_e); (walk_at "sm"); (first | ((apply ite_F); (walk_at "smb"); rfl) | ((apply ite_T); (walk_at "smb"); (walk_at "sm")) | ((apply and_gen); (walk_at "sm"))))
    | ((with_reducible apply eOr_e); (walk_at "sm"); (first | ((apply ite_T); (walk_at "smb"); rfl) | ((apply ite_F); (walk_at "smb"); (walk_at "sm")) | ((apply eor_gen); (walk_at "sm"))))
    | ((with_reducible apply eAnd_e); (walk_at "sm"); (first | ((apply ite_F); (walk_at "smb"); rfl) | ((apply ite_T); (walk_at "smb"); (walk_at "sm")) | ((apply eand_gen); (walk_at "sm"))))
    | ((with_reducible apply eIf_e); (walk_at "sm"); (first | ((apply ite_T); (walk_at "smb"); (walk_at "sm")) | ((apply ite_F); (walk_at "smb"); (walk_at "sm"))))
    | ((with_reducible apply sIf_e); (walk_at "sm"); (first | ((apply ite_T); (walk_at "smb"); (walk_at "sm")) | ((apply ite_F); (walk_at "smb"); (walk_at "sm"))))
    | ((with_reducible apply sSeq_e); (walk_at "sm"); (first | with_reducible exact seqK_rt | ((with_reducible apply seqK_nx); (walk_at "sm")) | ((with_reducible refine Eq.trans seqK_rt ?_); rfl)))
    | ((with_reducible apply sRet_eq); (walk_at "sm"))
    | ((with_reducible apply sAsg_eq); (walk_at "sm"); (walk_at "smg"))
    | with_reducible assumption
    | walk_at "smx")
local macro_rules
  | `(tactic| walk_at "smx") => `(tactic| fail "no step")
local macro_rules
  | `(tactic| walk_at "smg") => `(tactic| first
    | ((with_reducible apply gNm_e); ((dsimp only [List.set]) <;> rfl))
    | ((with_reducible apply gTp_e); rfl; ((dsimp only [setAll, List.set]) <;> rfl))
    | rfl)
theorem ok_head {k w : Nat} {a : PyData} {t : List PyData} (h : Ok k w (.tuple (a :: t))) : Ok k w a := by
  refine ⟨?_, ?_, ?_, ?_⟩
  · have := h.sh
    simp only [PyData.showable, PyData.showableAll, Bool.and_eq_true] at this
    exact this.1
  · have := h.dp
    simp only [PyData.depth, PyData.depthAll] at this
    omega
  · have := h.wl
    simp only [wt, wtAll] at this
    omega
  · have := h.mx
    simp only [PyData.hasDict, PyData.hasDictAll, hasList, hasListAll, Bool.not_or] at this
    cases h1 : a.hasDict <;> cases h2 : hasList a <;> simp_all
def someL (k d : Int) : List PyData := [.int (-1), .int 0, .int 1, .int 5, .int 6, .int d, .int (d + 1), .int k, .int (k - 1), .int (k + 1), .int 9, .int 7, .int 211, .int 223, .int 121, .int 15, .int 2, .bool true, .bool false, .none, .str (Str.ofString "1"), .tuple [.int 1]]
theorem some_all {k d : Int} (hk : -1000 ≤ k ∧ k ≤ 1000) (hd : -1000 ≤ d ∧ d ≤ 1000) : ∀ x ∈ someL k d, Ok 2 10000 x := by
  intro x hx
  simp only [someL, List.mem_cons, List.not_mem_nil, or_false] at hx
  rcases hx with rfl | rfl | rfl | rfl | rfl | rfl | rfl | rfl | rfl | rfl | rfl | rfl | rfl | rfl | rfl | rfl | rfl | rfl | rfl | rfl | rfl | rfl
  all_goals first
    | exact int_ok (by omega)
    | exact pl_bool.ok.up (by omega) (by omega)
    | exact pl_none.ok.up (by omega) (by omega)
    | exact str_ok (by decide +kernel)
    | exact (pl_tup (k := 0) (w := 1921) (xs := [1].map PyData.int) (ints_pl (by decide))).ok.up (by decide) (by walk_at "le")
def sm4 (p k d l : Int) : Prop := (-1000 ≤ p ∧ p ≤ 1000) ∧ (-1000 ≤ k ∧ k ≤ 1000) ∧ (-1000 ≤ d ∧ d ≤ 1000) ∧ (-1000 ≤ l ∧ l ≤ 1000)
theorem pli {i : Int} (h : -1000 ≤ i ∧ i ≤ 1000) : Pl 2 10000 (.int i) := (pl_int (by omega)).up (by omega) (by omega)
theorem four_at {p k d l at' : Int} {x : PyData} (hs : sm4 p k d l) (hx : Ok 2 10000 x) (a1 : 0 ≤ at') (a2 : at' < 4) : ∃ y, Ok 3 50000 (.tuple y) ∧ (cutD [.int p, .int k, .int d, .int l] none (some at') ++ [x]) ++ cutD [.int p, .int k, .int d, .int l] (some (at' + 1)) none = y ∧ Nat.ble ((cutD [.int p, .int k, .int d, .int l] none (some at')).length + [x].length) 100000 = true ∧ Nat.ble ((cutD [.int p, .int k, .int d, .int l] none (some at') ++ [x]).length + (cutD [.int p, .int k, .int d, .int l] (some (at' + 1)) none).length) 100000 = true := by
  obtain ⟨hp, hk, hd, hl⟩ := hs
  obtain rfl | rfl | rfl | rfl : at' = 0 ∨ at' = 1 ∨ at' = 2 ∨ at' = 3 := by omega
  · refine ⟨[] ++ x :: [.int k, .int d, .int l], (ok_mix (k := 2) (w := 10000) (by simp) (by simp [pli, *]) hx).up (by decide) (by walk_at "le"), rfl, rfl, rfl⟩
  · refine ⟨[.int p] ++ x :: [.int d, .int l], (ok_mix (k := 2) (w := 10000) (by simp [pli, *]) (by simp [pli, *]) hx).up (by decide) (by walk_at "le"), rfl, rfl, rfl⟩
  · refine ⟨[.int p, .int k] ++ x :: [.int l], (ok_mix (k := 2) (w := 10000) (by simp [pli, *]) (by simp [pli, *]) hx).up (by decide) (by walk_at "le"), rfl, rfl, rfl⟩
  · refine ⟨[.int p, .int k, .int d] ++ x :: [], (ok_mix (k := 2) (w := 10000) (by simp [pli, *]) (by simp) hx).up (by decide) (by walk_at "le"), rfl, rfl, rfl⟩
def fiveL (p k d l : Int) : List PyData := [.tuple ([.int p, .int k, .int d, .int l] ++ [.int 0]), .tuple (cutD [.int p, .int k, .int d, .int l] none (some 3)), .tuple [.int p, .int k, .int d, .int l].reverse, .list [.int p, .int k, .int d, .int l], .tuple [.tuple [.int p, .int k, .int d, .int l]]]
theorem five_all {p k d l : Int} (hs : sm4 p k d l) : ∀ x ∈ fiveL p k d l, Ok 3 50000 x := by
  obtain ⟨hp, hk, hd, hl⟩ := hs
  have hz : -1000 ≤ (0 : Int) ∧ (0 : Int) ≤ 1000 := by decide
  intro x hx
  simp only [fiveL, List.mem_cons, List.not_mem_nil, or_false] at hx
  rcases hx with rfl | rfl | rfl | rfl | rfl
  · exact (pl_tup (k := 2) (w := 5000) (xs := [.int p, .int k, .int d, .int l, .int 0]) (by
      have : ∀ i : Int, -1000 ≤ i ∧ i ≤ 1000 → Pl 2 5000 (.int i) := fun i h => (pl_int (by omega)).up (by omega) (by omega)
      simp [this, *])).ok.up (by decide) (by walk_at "le")
  · exact (pl_tup (k := 2) (w := 10000) (xs := [.int p, .int k, .int d]) (by simp [pli, *])).ok.up (by decide) (by walk_at "le")
  · exact (pl_tup (k := 2) (w := 10000) (xs := [.int l, .int d, .int k, .int p]) (by simp [pli, *])).ok.up (by decide) (by walk_at "le")
  · exact (ok_lst (k := 2) (w := 10000) (xs := [.int p, .int k, .int d, .int l]) (by simp [pli, *])).up (by decide) (by walk_at "le")
  · refine (pl_tup (k := 1) (w := 8000) (xs := [.tuple [.int p, .int k, .int d, .int l]]) ?_).ok.up (by decide) (by walk_at "le")
    intro x hx
    rw [List.mem_singleton] at hx
    subst hx
    exact (pl_tup (k := 0) (w := 1921) (xs := [p, k, d, l].map PyData.int) (ints_pl (by
      intro z hz
      simp only [List.mem_cons, List.not_mem_nil, or_false] at hz
      omega))).up (by decide) (by walk_at "le")
theorem xspoilt_ok {rest : Mem} {b p k d l : Int} {M : Mem} (h : Gd rest b M) (hb : b < 2 ^ 37) (hs : sm4 p k d l) : ∃ x M', F_xspoilt [.cel 1, .dat (shpD p k d l)] M = some (.dat x, M') ∧ Ok 3 50000 x ∧ Gd rest (b + 4) M' := by
  obtain ⟨a, M1, e1, a1, a2, h1⟩ := draw_g (many := 4) h (by omega) (by omega) (by omega)
  obtain ⟨r, M2, e2, r1, r2, h2⟩ := draw_g (many := 22) h1 (by omega) (by omega) (by omega)
  obtain ⟨w, M3, e3, w1, w2, h3⟩ := draw_g (many := 9) h2 (by omega) (by omega) (by omega)
  obtain ⟨y, hy, ey⟩ := at_mem (xs := someL k d) (n := 22) rfl r1 r2
  have hy' := some_all hs.2.1 hs.2.2.1 y hy
  have fin : ∀ x M', B_xspoilt [some (.cel 1), some (.dat (shpD p k d l)), none, none, none, none, none, none, none, none] M = some (.rt (.dat x) M') → Ok 3 50000 x → Gd rest (b + 4) M' → ∃ x M', F_xspoilt [.cel 1, .dat (shpD p k d l)] M = some (.dat x, M') ∧ Ok 3 50000 x ∧ Gd rest (b + 4) M' :=
    fun x M' e hx hg => ⟨x, M', mkF_e e (h.len hg), hx, hg⟩
  unfold shpD at fin ⊢
  by_cases hw0 : w = 0
  · obtain ⟨q, M4, e4, q1, q2, h4⟩ := draw_g (many := 5) h3 (by omega) (by omega) (by omega)
    obtain ⟨x, hx, ex⟩ := at_mem (xs := fiveL p k d l) (n := 5) rfl q1 q2
    refine fin x M4 ?_ (five_all hs x hx) (h4.up (by omega))
    walk_at "sm"
  by_cases hw1 : w = 1
  · obtain ⟨x, M4, e4, hx, h4⟩ := xodd_ok h3 (by omega) hs.1
    refine fin x M4 ?_ (hx.up (by omega) (by omega)) (h4.up (by omega))
    walk_at "sm"
  by_cases hw2 : w = 2
  · obtain ⟨x, M4, e4, hx, h4⟩ := xodd_ok h3 (by omega) hs.1
    obtain ⟨z, hz, ez, b1, b2⟩ := four_at hs hx a1 a2
    have c1 := l_addT (M := M4) b1
    have c2 := l_addT (M := M4) b2
    refine fin (.tuple z) M4 ?_ hz (h4.up (by omega))
    rw [← ez]
    walk_at "sm"
  · obtain ⟨z, hz, ez, b1, b2⟩ := four_at hs hy' a1 a2
    have c1 := l_addT (M := M3) b1
    have c2 := l_addT (M := M3) b2
    refine fin (.tuple z) M3 ?_ hz (h3.up (by omega))
    rw [← ez]
    walk_at "sm"
end Lk09

namespace Lk09
open PySem Sm L2
local macro_rules
  | `(tactic| walk_at "le") => `(tactic| ((try simp only [List.length_cons, List.length_nil, List.length_append, List.length_map]); omega))
local macro_rules
  | `(tactic| walk_at "smb") => `(tactic| first
    | with_reducible assumption
    | with_reducible rfl
    | assumption
    | rfl
    | (simp only [decide_eq_true_eq, decide_eq_false_iff_not, beq_iff_eq, Bool.not_eq_true', Bool.not_eq_false', beq_eq_false_iff_ne, Bool.and_eq_true, Bool.or_eq_true, Bool.not_eq_true, Bool.not_eq_false, ne_eq, Bool.and_eq_false_imp, Bool.or_eq_false_iff]; omega))
local macro_rules
  | `(tactic| walk_at "smf") => `(tactic| fail "no call")
local macro_rules
  | `(tactic| walk_at "sml") => `(tactic| first
    | with_reducible assumption
    | with_reducible exact l_add
    | with_reducible exact l_sub
    | with_reducible exact l_eq
    | with_reducible exact l_ne
    | with_reducible exact l_lt
    | with_reducible exact l_le
    | with_reducible exact l_gt
    | with_reducible exact l_ge
    | with_reducible exact l_eqSS
    | with_reducible exact l_neSS
    | with_reducible exact l_eqBS
    | with_reducible exact l_neBS
    | with_reducible exact l_eqB
    | with_reducible exact l_neB
    | with_reducible exact l_eqS
    | with_reducible exact l_neS
    | with_reducible exact l_neg
    | with_reducible exact isi_int _
    | with_reducible exact isi_bool _
    | with_reducible exact isi_tup _
    | with_reducible exact l_lenL
    | with_reducible exact l_lenT
    | with_reducible exact l_slL
    | with_reducible exact l_slT
    | ((with_reducible apply l_mod); (walk_at "smo"))
    | ((with_reducible apply l_mul); (walk_at "smo"))
    | ((with_reducible apply l_div); (walk_at "smo"); (walk_at "smo"))
    | ((with_reducible apply l_addT); rfl)
    | ((with_reducible apply l_addL); rfl)
    | ((with_reducible apply l_ixL); first | assumption | rfl)
    | ((with_reducible apply l_ixT); first | assumption | rfl)
    | ((with_reducible apply one_eq); (walk_at "sml"))
    | with_reducible assumption
    | rfl)
local macro_rules
  | `(tactic| walk_at "smo") => `(tactic| first | assumption | omega)
local macro_rules
  | `(tactic| walk_at "sm") => `(tactic| first
    | with_reducible assumption
    | with_reducible exact aNil_eq
    | with_reducible exact eC_eq
    | with_reducible exact sNext_eq
    | with_reducible exact eD0_eq
    | ((with_reducible apply eD1_eq); (walk_at "sm"))
    | ((with_reducible apply eC_e); rfl)
    | with_reducible exact oNone_eq
    | ((with_reducible apply eVar_eq); rfl)
    | ((with_reducible apply aCons_eq); (walk_at "sm"); (walk_at "sm"))
    | ((with_reducible apply eOp_eq); (walk_at "sm"); (walk_at "sm"); (walk_at "sml"))
    | ((with_reducible apply eUn_eq); (walk_at "sm"); (walk_at "sml"))
    | ((with_reducible apply eCB_eq); (walk_at "sm"); (walk_at "sml"))
    | ((with_reducible apply eCall_eq); (walk_at "sm"); (first | with_reducible assumption | walk_at "smf"))
    | ((with_reducible apply eTup_e); (walk_at "sm"); rfl; rfl)
    | ((with_reducible apply eLst_e); (walk_at "sm"); rfl; rfl)
    | ((with_reducible apply oSome_eq); (walk_at "sm"))
    | ((with_reducible apply eSl_eq); (walk_at "sm"); (walk_at "sm"); (walk_at "sm"); (walk_at "sml"))
    | ((with_reducible apply eNot_eq); (walk_at "sm"))
    | ((with_reducible apply bNot_eq); (walk_at "sm"))
    | ((with_reducible apply bVal_eq); (walk_at "sm"))
    | ((with_reducible apply bTru_b); (walk_at "sm"))
    | ((with_reducible apply eChain_e); (walk_at "sm"); (walk_at "sm"); (walk_at "sml"); (walk_at "sm"); (walk_at "sml"))
    | ((with_reducible apply eChain3_e); (walk_at "sm"); (walk_at "sm"); (walk_at "sml"); (walk_at "sm"); (walk_at "sml"); (walk_at "sm"); (walk_at "sml"))
    | ((with_reducible apply bOr_e); (walk_at "sm"); (first | ((apply ite_T); (walk_at "smb"); rfl) | ((apply ite_F); (walk_at "smb"); (walk_at "sm")) | ((apply or_gen); (walk_at "sm"))))
    | ((with_reducible apply bAnd_e); (walk_at "sm"); (first | ((apply ite_F); (walk_at "smb"); rfl) | ((apply ite_T); (walk_at "smb"); (walk_at "sm")) | ((apply and_gen); (walk_at "sm"))))
    | ((with_reducible apply eOr_e); (walk_at "sm"); (first | ((apply ite_T); (walk_at "smb"); rfl) | ((apply ite_F); (walk_at "smb"); (walk_at "sm")) | ((apply eor_gen); (walk_at "sm"))))
    | ((with_reducible apply eAnd_e); (walk_at "sm"); (first | ((apply ite_F); (walk_at "smb"); rfl) | ((apply ite_T); (walk_at "smb"); (walk_at "sm")) | ((apply eand_gen); (walk_at "sm"))))
    | ((with_reducible apply eIf_e); (walk_at "sm"); (first | ((apply ite_T); (walk_at "smb"); (walk_at "sm")) | ((apply ite_F); (walk_at "smb"); (walk_at "sm"))))
    | ((with_reducible apply sIf_e); (walk_at "sm"); (first | ((apply ite_T); (walk_at "smb"); (walk_at "sm")) | ((apply ite_F); (walk_at "smb"); (walk_at "sm"))))
    | ((with_reducible apply sSeq_e); (walk_at "sm"); (first | with_reducible exact seqK_rt | ((with_reducible apply seqK_nx); (walk_at "sm")) | ((with_reducible refine Eq.trans seqK_rt ?_); rfl)))
    | ((with_reducible apply sRet_eq); (walk_at "sm"))
    | ((with_reducible apply sAsg_eq); (walk_at "sm"); (walk_at "smg"))
    | with_reducible assumption
    | walk_at "smx")
local macro_rules
  | `(tactic| walk_at "smx") => `(tactic| fail "no step")
local macro_rules
  | `(tactic| walk_at "smg") => `(tactic| first
    | ((with_reducible apply gNm_e); ((dsimp only [List.set]) <;> rfl))
    | ((with_reducible apply gTp_e); rfl; ((dsimp only [setAll, List.set]) <;> rfl))
    | rfl)
local macro_rules
  | `(tactic| walk_at "smf") => `(tactic| first | with_reducible exact is_shape_ok _ _ | with_reducible exact xdue_ok _ _)
theorem turn_ok {M : Mem} {x : PyData} {k w : Nat} (o0 o1 o2 o3 o4 o5 o7 o8 : Option SV) (hx : Ok k w x) (hk : k ≤ 64) (hw : w ≤ 1000000) : ∃ o7' o8', (sSeq (sAsg (eCB (one (lift1 dRepr)) (aCons (eVar 6) aNil)) (gNm 7))
    (sSeq (sAsg (eCall F_is_shape (aCons (eVar 6) aNil)) (gNm 8))
    (sIf (bOr (bNot (bVal (eUn (fIsi "bool") (eVar 8)))) (bOr (bVal (eOp (lift2 dNe) (eVar 8) (eCall F_xdue (aCons (eVar 6) aNil)))) (bVal (eOp (lift2 dNe) (eCB (one (lift1 dRepr)) (aCons (eVar 6) aNil)) (eVar 7))))) (sRet (eC (.bool false))) sNext))) [o0, o1, o2, o3, o4, o5, some (.dat x), o7, o8] M = some (.nx [o0, o1, o2, o3, o4, o5, some (.dat x), o7', o8'] M) := by
  have hr := hx.repr (M := M) hk hw
  refine ⟨some (.dat (.str x.shown)), some (.dat (.bool (shB x))), ?_⟩
  walk_at "sm"
theorem shB_sm {d : PyData} (h : shB d = true) : ∃ p k e l, d = shpD p k e l ∧ sm4 p k e l := by
  unfold shB at h
  split at h
  · rename_i p k e l
    simp only [Bool.and_eq_true, decide_eq_true_eq] at h
    obtain ⟨h1, h2, h3, h4⟩ := h
    refine ⟨p, k, e, l, rfl, ?_⟩
    by_cases hp : 11 ≤ p ∧ p ≤ 211
    · exact ⟨by omega, by omega, by omega, by omega⟩
    · rw [prB_out hp] at h1; cases h1
  · cases h
theorem prs8_b : ∀ p ∈ prs8, 11 ≤ p ∧ p ≤ 211 := by decide
theorem shp_ok {p k d l : Int} (hs : sm4 p k d l) : Ok 3 50000 (shpD p k d l) := by
  obtain ⟨hp, hk, hd, hl⟩ := hs
  exact (pl_tup (k := 2) (w := 10000) (xs := [.int p, .int k, .int d, .int l]) (by simp [pli, *])).ok.up (by decide) (by walk_at "le")
abbrev inb : SS := (sSeq (sAsg (eCB (one (lift1 dRepr)) (aCons (eVar 6) aNil)) (gNm 7))
    (sSeq (sAsg (eCall F_is_shape (aCons (eVar 6) aNil)) (gNm 8))
    (sIf (bOr (bNot (bVal (eUn (fIsi "bool") (eVar 8)))) (bOr (bVal (eOp (lift2 dNe) (eVar 8) (eCall F_xdue (aCons (eVar 6) aNil)))) (bVal (eOp (lift2 dNe) (eCB (one (lift1 dRepr)) (aCons (eVar 6) aNil)) (eVar 7))))) (sRet (eC (.bool false))) sNext)))
abbrev lst7 : SE := eLst (aCons (eVar 3) (aCons (eVar 4) (aCons (eVar 5) (aCons (eTup (aCons (eC (.int 211)) (aCons (eC (.int 5)) (aCons (eC (.int 5)) (aCons (eC (.int 4)) aNil))))) (aCons (eTup (aCons (eC (.int 11)) (aCons (eC (.int 1)) (aCons (eC (.int 1)) (aCons (eC (.int 0)) aNil))))) (aCons (eTup (aCons (eC (.int 212)) (aCons (eC (.int 1)) (aCons (eC (.int 1)) (aCons (eC (.int 0)) aNil))))) (aCons (eTup (aCons (eC (.int 11)) (aCons (eC (.int 5)) (aCons (eC (.int 5)) (aCons (eC (.int 5)) aNil))))) aNil)))))))
theorem inner_ok {M : Mem} {o0 o1 o2 o6 o7 o8 : Option SV} {x y z : PyData} {w : Nat} (hw : w ≤ 1000000) (hx : Ok 4 w x) (hy : Ok 4 w y) (hz : Ok 4 w z) (h5 : 50000 ≤ w) : ∃ o6' o7' o8', sFor (iDat lst7) (gNm 6) inb [o0, o1, o2, some (.dat x), some (.dat y), some (.dat z), o6, o7, o8] M = some (.nx [o0, o1, o2, some (.dat x), some (.dat y), some (.dat z), o6', o7', o8'] M) := by
  have hc : ∀ p k d l : Int, sm4 p k d l → Ok 4 w (shpD p k d l) := fun p k d l h => (shp_ok h).up (by decide) h5
  have hl : ∀ u ∈ [x, y, z, shpD 211 5 5 4, shpD 11 1 1 0, shpD 212 1 1 0, shpD 11 5 5 5], Ok 4 w u := by
    intro u hu
    simp only [List.mem_cons, List.not_mem_nil, or_false] at hu
    rcases hu with rfl | rfl | rfl | rfl | rfl | rfl | rfl
    · exact hx
    · exact hy
    · exact hz
    · exact hc _ _ _ _ (by unfold sm4; decide)
    · exact hc _ _ _ _ (by unfold sm4; decide)
    · exact hc _ _ _ _ (by unfold sm4; decide)
    · exact hc _ _ _ _ (by unfold sm4; decide)
  have it : iDat lst7 [o0, o1, o2, some (.dat x), some (.dat y), some (.dat z), o6, o7, o8] M = some ([x, y, z, shpD 211 5 5 4, shpD 11 1 1 0, shpD 212 1 1 0, shpD 11 5 5 5], M) := rfl
  obtain ⟨ρ', M', e, ⟨o6', o7', o8', rfl⟩, rfl⟩ := loop_inv (g := gNm 6) (s := inb) (fun _ ρ M1 => (∃ o6 o7 o8, ρ = [o0, o1, o2, some (.dat x), some (.dat y), some (.dat z), o6, o7, o8]) ∧ M1 = M) [x, y, z, shpD 211 5 5 4, shpD 11 1 1 0, shpD 212 1 1 0, shpD 11 5 5 5] 0 [o0, o1, o2, some (.dat x), some (.dat y), some (.dat z), o6, o7, o8] M ⟨⟨_, _, _, rfl⟩, rfl⟩ (by
    rintro i u ρ M1 hu ⟨⟨o6, o7, o8, rfl⟩, rfl⟩
    have hm : Ok 4 w u := hl u (List.mem_of_getElem? hu)
    obtain ⟨o7', o8', e⟩ := turn_ok (M := M1) o0 o1 o2 (some (.dat x)) (some (.dat y)) (some (.dat z)) o7 o8 hm (by decide) hw
    exact ⟨_, _, _, _, rfl, e, ⟨_, _, _, rfl⟩, rfl⟩)
  exact ⟨o6', o7', o8', sFor_eq it e⟩
abbrev outb : SS := (sSeq (sAsg (eCall F_xshape (aCons (eVar 1) aNil)) (gNm 3))
    (sSeq (sAsg (eCall F_xspoilt (aCons (eVar 1) (aCons (eVar 3) aNil))) (gNm 4))
    (sSeq (sAsg (eVar 4) (gNm 5))
    (sSeq (sIf (bAnd (bVal (eUn (fIsi "tuple") (eVar 4))) (bVal (eOp (lift2 dEq) (eCB (one fLen) (aCons (eVar 4) aNil)) (eC (.int 4))))) (sAsg (eIf (bVal (eCall F_xdue (aCons (eVar 4) aNil))) (eCall F_xspoilt (aCons (eVar 1) (aCons (eVar 4) aNil))) (eOp (lift2 dAdd) (eSl fSl (eVar 4) oNone (oSome (eC (.int 1)))) (eSl fSl (eVar 3) (oSome (eC (.int 1))) oNone))) (gNm 5)) sNext)
    (sFor (iDat lst7) (gNm 6) inb)))))
theorem turn {b : Int} {M : Mem} {o0 o2 o3 o4 o5 o6 o7 o8 : Option SV} (h : Gd [] b M) (hb : b < 2 ^ 36) : ∃ o3' o4' o5' o6' o7' o8' M', outb [o0, some (.cel 1), o2, o3, o4, o5, o6, o7, o8] M = some (.nx [o0, some (.cel 1), o2, o3', o4', o5', o6', o7', o8'] M') ∧ Gd [] (b + 12) M' := by
  obtain ⟨p, k, d, l, M1, e1, hp, d1, d2, k1, k2, l1, l2, h1⟩ := xshape_ok h (by omega)
  have hpb := prs8_b p hp
  have hs : sm4 p k d l := ⟨by omega, by omega, by omega, by omega⟩
  obtain ⟨x, M2, e2, hx, h2⟩ := xspoilt_ok h1 (by omega) hs
  have hx' : Ok 4 250000 x := hx.up (by decide) (by decide)
  have hsp : Ok 4 250000 (shpD p k d l) := (shp_ok hs).up (by decide) (by decide)
  have fin : ∀ (y : PyData) (M3 : Mem), (sIf (bAnd (bVal (eUn (fIsi "tuple") (eVar 4))) (bVal (eOp (lift2 dEq) (eCB (one fLen) (aCons (eVar 4) aNil)) (eC (.int 4))))) (sAsg (eIf (bVal (eCall F_xdue (aCons (eVar 4) aNil))) (eCall F_xspoilt (aCons (eVar 1) (aCons (eVar 4) aNil))) (eOp (lift2 dAdd) (eSl fSl (eVar 4) oNone (oSome (eC (.int 1)))) (eSl fSl (eVar 3) (oSome (eC (.int 1))) oNone))) (gNm 5)) sNext) [o0, some (.cel 1), o2, some (.dat (shpD p k d l)), some (.dat x), some (.dat x), o6, o7, o8] M2 = some (.nx [o0, some (.cel 1), o2, some (.dat (shpD p k d l)), some (.dat x), some (.dat y), o6, o7, o8] M3) → Ok 4 250000 y → Gd [] (b + 12) M3 →
      ∃ o3' o4' o5' o6' o7' o8' M', outb [o0, some (.cel 1), o2, o3, o4, o5, o6, o7, o8] M = some (.nx [o0, some (.cel 1), o2, o3', o4', o5', o6', o7', o8'] M') ∧ Gd [] (b + 12) M' := by
    intro y M3 e3 hy h3
    obtain ⟨o6', o7', o8', e4⟩ := inner_ok (M := M3) (o0 := o0) (o1 := some (.cel 1)) (o2 := o2) (o6 := o6) (o7 := o7) (o8 := o8) (by decide) hsp hx' hy (by decide)
    refine ⟨some (.dat (shpD p k d l)), some (.dat x), some (.dat y), o6', o7', o8', M3, ?_, h3⟩
    walk_at "sm"
  by_cases ht : kTup x = true
  · cases x <;> first | cases ht | skip
    rename_i ds
    by_cases hl : ds.length = 4
    · obtain ⟨a, b', c, e, rfl⟩ := four hl
      cases hd : shB (.tuple [a, b', c, e]) with
      | true =>
        obtain ⟨p', k', d', l', q, hs'⟩ := shB_sm hd
        obtain ⟨y, M3, e3, hy, h3⟩ := xspoilt_ok h2 (by omega) hs'
        rw [← q] at e3
        refine fin y M3 ?_ (hy.up (by decide) (by decide)) (h3.up (by omega))
        walk_at "sm"
      | false =>
        obtain ⟨hp', hk', hd', hl'⟩ := id hs
        have pl5 : ∀ i : Int, -1000 ≤ i ∧ i ≤ 1000 → Pl 3 50000 (.int i) := fun i h => (pl_int (by omega)).up (by omega) (by omega)
        refine fin (.tuple ([] ++ a :: [.int k, .int d, .int l])) M2 ?_ ((ok_mix (k := 3) (w := 50000) (by simp) (by simp [pl5, *]) (ok_head hx)).up (by decide) (by walk_at "le")) (h2.up (by omega))
        walk_at "sm"
    · have hl' : ((ds.length : Int) == 4) = false := by rw [beq_eq_false_iff_ne]; omega
      refine fin (.tuple ds) M2 ?_ hx' (h2.up (by omega))
      walk_at "sm"
  · have ht' : kTup x = false := by simpa using ht
    refine fin x M2 ?_ hx' (h2.up (by omega))
    walk_at "sm"
theorem law_ok (ns : List Int) (hn : ns.length ≤ 63) : ∃ M, F_law [.dat (.list (ns.map PyData.int))] [] = some (.dat (.bool true), M) := by
  obtain ⟨ρ', M', e, _⟩ := loop_inv (g := gNm 2) (s := outb) (fun n ρ M => ∃ o2 o3 o4 o5 o6 o7 o8, ρ = [some (.dat (.list (ns.map PyData.int))), some (.cel 1), o2, o3, o4, o5, o6, o7, o8] ∧ Gd [] (12 * n) M) (rangeD 0 12) 0 [some (.dat (.list (ns.map PyData.int))), some (.cel 1), none, none, none, none, none, none, none] (dk (ns.map fun z => if z < 0 then -z else z) 0 [])
    ⟨_, _, _, _, _, _, _, rfl, _, 0, rfl, abs_nn ns, by omega, by omega⟩ (by
      rintro i x ρ M hx ⟨o2, o3, o4, o5, o6, o7, o8, rfl, hG⟩
      have hi : i < (rangeD 0 12).length := (List.getElem?_eq_some_iff.mp hx).1
      rw [rangeD_len] at hi
      obtain ⟨o3', o4', o5', o6', o7', o8', M', e, h'⟩ := turn (o0 := some (.dat (.list (ns.map PyData.int)))) (o2 := some (.dat x)) (o3 := o3) (o4 := o4) (o5 := o5) (o6 := o6) (o7 := o7) (o8 := o8) hG (by omega)
      refine ⟨_, _, _, M', rfl, e, _, _, _, _, _, _, _, rfl, ?_⟩
      exact h'.up (by push_cast; omega))
  refine ⟨_, mkF_rt (d := .bool true) (M1 := M') ?_⟩
  refine sSeq_nx (M1 := dk (ns.map fun z => if z < 0 then -z else z) 0 []) (ρ1 := [some (.dat (.list (ns.map PyData.int))), some (.cel 1), none, none, none, none, none, none, none]) (sAsg_eq (eCall_eq (M1 := []) (xs := [.dat (.list (ns.map PyData.int))]) rfl (deck_ok ns hn)) rfl) (sSeq_nx (sFor_eq (ds := rangeD 0 12) rfl e) rfl)
end Lk09

open PySem PySem.W PyProof.Rows
set_option maxHeartbeats 0 in
theorem PySem.Challenge.cw_toldpieces_k09_shapes_judged_holds : PySem.Challenge.rw_toldpieces_k09_shapes_judged.Holds := by
  w_on; o_law; k_head; (case hw => w_witness2)
  k_fill
  refine Sm.walk_G (l := PySem.Challenge.rw_toldpieces_k09_shapes_judged) (n := 63) (k := 4)
    (x := "_law_script") (f := Lk09.F_law) rfl (by decide) rfl ⟨rfl, by decide, by decide⟩
    (fun w h Y => PySem.W.kIn_of Y) ?F (fun ns hl hb => Lk09.law_ok ns hl)
  case F =>
    intro w mg fa h KX G hmg
    refine' Lk09.all_mk KX G hmg ?a0 ?l0 ?c0 ?k0 ?a1 ?l1 ?c1 ?k1 ?a2 ?l2 ?c2 ?k2 ?a3 ?l3 ?c3 ?k3 ?a4 ?l4 ?c4 ?k4 ?a5 ?l5 ?c5 ?k5 ?a6 ?l6 ?c6 ?k6 ?a7 ?l7 ?c7 ?k7 ?a8 ?l8 ?c8 ?k8 ?a9 ?l9 ?c9 ?k9 ?a10 ?l10 ?c10 ?k10 ?a11 ?l11 ?c11 ?k11 ?a12 ?l12 ?c12 ?k12 ?z_abs ?z_all ?z_bool ?z_int ?z_isinstance ?z_len ?z_list ?z_range ?z_repr ?z_tuple ?y_PRIMES ?q_PRIMES ?qc_PRIMES ?qd_PRIMES ?qs_PRIMES ?qv_PRIMES ?y_MOST_COLUMNS
    (case a0 => k_is); (case l0 => k_is); (case c0 => k_is); (case k0 => k_is); (case a1 => k_is); (case l1 => k_is); (case c1 => k_is); (case k1 => k_is); (case a2 => k_is); (case l2 => k_is); (case c2 => k_is); (case k2 => k_is); (case a3 => k_is); (case l3 => k_is); (case c3 => k_is); (case k3 => k_is); (case a4 => k_is); (case l4 => k_is); (case c4 => k_is); (case k4 => k_is); (case a5 => k_is); (case l5 => k_is); (case c5 => k_is); (case k5 => k_is); (case a6 => k_is); (case l6 => k_is); (case c6 => k_is); (case k6 => k_is); (case a7 => k_is); (case l7 => k_is); (case c7 => k_is); (case k7 => k_is); (case a8 => k_is); (case l8 => k_is); (case c8 => k_is); (case k8 => k_is); (case a9 => k_is); (case l9 => k_is); (case c9 => k_is); (case k9 => k_is); (case a10 => k_is); (case l10 => k_is); (case c10 => k_is); (case k10 => k_is); (case a11 => k_is); (case l11 => k_is); (case c11 => k_is); (case k11 => k_is); (case a12 => k_is); (case l12 => k_is); (case c12 => k_is); (case k12 => k_is); (case z_abs => k_is); (case z_all => k_is); (case z_bool => k_is); (case z_int => k_is); (case z_isinstance => k_is); (case z_len => k_is); (case z_list => k_is); (case z_range => k_is); (case z_repr => k_is); (case z_tuple => k_is); (case y_PRIMES => k_is); (case q_PRIMES => k_is); (case qc_PRIMES => rfl); (case qd_PRIMES => rfl); (case qs_PRIMES => decide); (case qv_PRIMES => repeat (first | exact .nil | refine .cons ⟨_, rfl⟩ ?_)); (case y_MOST_COLUMNS => k_is)
