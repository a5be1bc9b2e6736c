import PyProof.Rows.All
import Wide.All
import OpenK.AllK
import Wide.FinOn
import HandS.ForMost
import HandS.EndBits
import HandS.Wide
import HandS.Rev
import HandS.Zip
import HandS.Conv
import HandS.IsInst
import HandS.TupMul
import HandS.TupAny
import HandS.SortInts
import HandS.Style
import PyProof.ReprRoads
import KE.GoesEnum
import KE.GoesZip
import KE.KDictZip
import HandS.SortRule
import HandS.More
import HandS.NoneIn
import HandS.Deep
import PyProof.NeKinds
import PyProof.FactsAll.dict_2
import PyProof.FactsAll.subtypes_3
import KE.KTupSum
import HandS.Flow
import HandS.RevRange
import HandS.TupLe
import PySem.Challenge.RW_toldpieces_k38_whole_one_asked_fewer
set_option Elab.async false
set_option linter.all false
set_option maxRecDepth 100000
set_option maxHeartbeats 4000000
/-! Sm: Python's data without a heap: what an expression or statement gives, as a plain function; that the layer's readings hold by it. -/
namespace Sm
open PySem PySem.Spec PyProof.Rows L2

/-- a thing as the plain side sees it: data that nobody changes, or a list that somebody may change -/
inductive SV where
  | dat (d : PyData)
  | cel (i : Nat)
abbrev Mem := List (Option (List SV))
abbrev Rho := List (Option SV)

def kD : Key → PyData
  | .inl i => .int i
  | .inr x => .str x

mutual
inductive Dq (K : PySem.W.Frag) (G : Hp) : V → PyData → Prop
  | non : Dq K G .non .none
  | bl (b : Bool) : Dq K G (.bl b) (.bool b)
  | int (i : Int) : Dq K G (.int i) (.int i)
  | str (x : Str) : Dq K G (.str x) (.str x)
  | lst {a : Addr} {xs : List V} {ds : List PyData} : SqL K G a xs → DqAll K G xs ds → Dq K G (.ref a) (.list ds)
  | tup {a : Addr} {xs : List V} {ds : List PyData} : SqT K G a xs → DqAll K G xs ds → Dq K G (.ref a) (.tuple ds)
  | dic {a : Addr} {kvs : List (Key × V)} {ds : List (PyData × PyData)} : Rd G a (.dK kvs) → DqKv K G kvs ds → Dq K G (.ref a) (.dict ds)
inductive DqAll (K : PySem.W.Frag) (G : Hp) : List V → List PyData → Prop
  | nil : DqAll K G [] []
  | cons {v : V} {vs : List V} {d : PyData} {ds : List PyData} : Dq K G v d → DqAll K G vs ds → DqAll K G (v :: vs) (d :: ds)
inductive DqKv (K : PySem.W.Frag) (G : Hp) : List (Key × V) → List (PyData × PyData) → Prop
  | nil : DqKv K G [] []
  | cons {k : Key} {v : V} {vs : List (Key × V)} {d : PyData} {ds : List (PyData × PyData)} : Dq K G v d → DqKv K G vs ds → DqKv K G ((k, v) :: vs) ((kD k, d) :: ds)
end

theorem same_sqT {K : PySem.W.Frag} {H H' : Hp} {a : Addr} {xs : List V} (e : Same H H') (h : SqT K H a xs) : SqT K H' a xs := by
  rcases h with (h | ⟨o, h⟩) | h
  · exact .inl (.inl (e _ _ h))
  · exact .inl (.inr ⟨o, e _ _ h⟩)
  · exact .inr h
theorem same_rd {H H' : Hp} {a : Addr} {u : HO} (e : Same H H') (h : Rd H a u) : Rd H' a u := by
  rcases h with h | ⟨o, h⟩
  · exact .inl (e _ _ h)
  · exact .inr ⟨o, e _ _ h⟩
section
variable {K : PySem.W.Frag} {G G' : Hp}
mutual
theorem Dq.mono (e : Same G G') : ∀ {v : V} {d : PyData}, Dq K G v d → Dq K G' v d
  | _, _, .non => .non
  | _, _, .bl b => .bl b
  | _, _, .int i => .int i
  | _, _, .str x => .str x
  | _, _, .lst h r => .lst (e.seq h) (DqAll.mono e r)
  | _, _, .tup h r => .tup (same_sqT e h) (DqAll.mono e r)
  | _, _, .dic h r => .dic (same_rd e h) (DqKv.mono e r)
theorem DqAll.mono (e : Same G G') : ∀ {v : List V} {d : List PyData}, DqAll K G v d → DqAll K G' v d
  | _, _, .nil => .nil
  | _, _, .cons h r => .cons (Dq.mono e h) (DqAll.mono e r)
theorem DqKv.mono (e : Same G G') : ∀ {v : List (Key × V)} {d : List (PyData × PyData)}, DqKv K G v d → DqKv K G' v d
  | _, _, .nil => .nil
  | _, _, .cons h r => .cons (Dq.mono e h) (DqKv.mono e r)
end
theorem DqAll.length : ∀ {v : List V} {d : List PyData}, DqAll K G v d → v.length = d.length
  | _, _, .nil => rfl
  | _, _, .cons _ r => by rw [List.length_cons, List.length_cons, r.length]
theorem DqAll.get : ∀ {v : List V} {d : List PyData} {i : Nat} {x : V}, DqAll K G v d → v[i]? = some x → ∃ y, d[i]? = some y ∧ Dq K G x y
  | _, _, _, _, .nil, h => by simp at h
  | _, _, 0, _, .cons h _, e => by simp at e; subst e; exact ⟨_, rfl, h⟩
  | _, _, i + 1, _, .cons _ r, e => by
    obtain ⟨y, h1, h2⟩ := r.get (i := i) (by simpa using e)
    exact ⟨y, by simpa using h1, h2⟩
theorem DqAll.get' : ∀ {v : List V} {d : List PyData} {i : Nat} {y : PyData}, DqAll K G v d → d[i]? = some y → ∃ x, v[i]? = some x ∧ Dq K G x y
  | _, _, _, _, .nil, h => by simp at h
  | _, _, 0, _, .cons h _, e => by simp at e; subst e; exact ⟨_, rfl, h⟩
  | _, _, i + 1, _, .cons _ r, e => by
    obtain ⟨y, h1, h2⟩ := r.get' (i := i) (by simpa using e)
    exact ⟨y, by simpa using h1, h2⟩
theorem DqAll.append : ∀ {v w : List V} {d e : List PyData}, DqAll K G v d → DqAll K G w e → DqAll K G (v ++ w) (d ++ e)
  | _, _, _, _, .nil, h => h
  | _, _, _, _, .cons h r, s => .cons h (r.append s)
theorem DqAll.take : ∀ {v : List V} {d : List PyData} (n : Nat), DqAll K G v d → DqAll K G (v.take n) (d.take n)
  | _, _, 0, _ => .nil
  | _, _, _ + 1, .nil => .nil
  | _, _, n + 1, .cons h r => .cons h (r.take n)
theorem DqAll.drop : ∀ {v : List V} {d : List PyData} (n : Nat), DqAll K G v d → DqAll K G (v.drop n) (d.drop n)
  | _, _, 0, r => r
  | _, _, _ + 1, .nil => .nil
  | _, _, n + 1, .cons _ r => r.drop n
theorem DqAll.reverse : ∀ {v : List V} {d : List PyData}, DqAll K G v d → DqAll K G v.reverse d.reverse
  | _, _, .nil => .nil
  | _, _, .cons h r => by rw [List.reverse_cons, List.reverse_cons]; exact r.reverse.append (.cons h .nil)
theorem DqAll.flat : ∀ (n : Nat) {v : List V} {d : List PyData}, DqAll K G v d → DqAll K G (List.replicate n v).flatten (List.replicate n d).flatten
  | 0, _, _, _ => .nil
  | n + 1, _, _, h => by
    rw [List.replicate_succ, List.replicate_succ, List.flatten_cons, List.flatten_cons]
    exact h.append (DqAll.flat n h)
end

inductive Sv (K : PySem.W.Frag) (π : List Addr) (G : Hp) : SV → V → Prop
  | dat {d : PyData} {v : V} : Dq K G v d → Sv K π G (.dat d) v
  | cel {i : Nat} {a : Addr} : π[i]? = some a → Sv K π G (.cel i) (.ref a)
inductive Svs (K : PySem.W.Frag) (π : List Addr) (G : Hp) : List SV → List V → Prop
  | nil : Svs K π G [] []
  | cons {s : SV} {v : V} {ss : List SV} {vs : List V} : Sv K π G s v → Svs K π G ss vs → Svs K π G (s :: ss) (v :: vs)
inductive Slots (K : PySem.W.Frag) (π : List Addr) (G : Hp) : Rho → L2.St → Prop
  | nil : Slots K π G [] []
  | skip {v : Option V} {ρ : Rho} {σ : L2.St} : Slots K π G ρ σ → Slots K π G (none :: ρ) (v :: σ)
  | hold {s : SV} {x : V} {ρ : Rho} {σ : L2.St} : Sv K π G s x → Slots K π G ρ σ → Slots K π G (some s :: ρ) (some x :: σ)
section
variable {K : PySem.W.Frag} {π more : List Addr} {G G' : Hp}
theorem ix_app {i : Nat} {a : Addr} (h : π[i]? = some a) : (π ++ more)[i]? = some a := by
  obtain ⟨hi, e⟩ := List.getElem?_eq_some_iff.mp h
  rw [List.getElem?_append_left hi]
  exact h
theorem Sv.mono (e : Same G G') : ∀ {s : SV} {v : V}, Sv K π G s v → Sv K (π ++ more) G' s v
  | _, _, .dat h => .dat (h.mono e)
  | _, _, .cel h => .cel (ix_app h)
theorem Svs.mono (e : Same G G') : ∀ {s : List SV} {v : List V}, Svs K π G s v → Svs K (π ++ more) G' s v
  | _, _, .nil => .nil
  | _, _, .cons h r => .cons (h.mono e) (r.mono e)
theorem Slots.mono (e : Same G G') : ∀ {s : Rho} {v : L2.St}, Slots K π G s v → Slots K (π ++ more) G' s v
  | _, _, .nil => .nil
  | _, _, .skip r => .skip (r.mono e)
  | _, _, .hold h r => .hold (h.mono e) (r.mono e)
theorem Sv.mono0 (e : Same G G') {s : SV} {v : V} (h : Sv K π G s v) : Sv K π G' s v := by
  have := Sv.mono (more := []) e h
  rwa [List.append_nil] at this
theorem Svs.mono0 (e : Same G G') {s : List SV} {v : List V} (h : Svs K π G s v) : Svs K π G' s v := by
  have := Svs.mono (more := []) e h
  rwa [List.append_nil] at this
theorem Slots.mono0 (e : Same G G') {s : Rho} {v : L2.St} (h : Slots K π G s v) : Slots K π G' s v := by
  have := Slots.mono (more := []) e h
  rwa [List.append_nil] at this
theorem Svs.length : ∀ {s : List SV} {v : List V}, Svs K π G s v → s.length = v.length
  | _, _, .nil => rfl
  | _, _, .cons _ r => by rw [List.length_cons, List.length_cons, r.length]
theorem Svs.get : ∀ {s : List SV} {v : List V} {i : Nat} {x : SV}, Svs K π G s v → s[i]? = some x → ∃ y, v[i]? = some y ∧ Sv K π G x y
  | _, _, _, _, .nil, h => by simp at h
  | _, _, 0, _, .cons h _, e => by simp at e; subst e; exact ⟨_, rfl, h⟩
  | _, _, i + 1, _, .cons _ r, e => by
    obtain ⟨y, h1, h2⟩ := r.get (i := i) (by simpa using e)
    exact ⟨y, by simpa using h1, h2⟩
theorem Svs.refs : ∀ {s : List SV} {v : List V} {j : Nat}, Svs K π G s v → SV.cel j ∈ s → j < π.length
  | _, _, _, .nil, h => by cases h
  | _, _, _, .cons h r, m => by
    rcases List.mem_cons.mp m with e | e
    · subst e
      cases h with
      | cel h => exact (List.getElem?_eq_some_iff.mp h).1
    · exact r.refs e
theorem Svs.append : ∀ {s t : List SV} {v w : List V}, Svs K π G s v → Svs K π G t w → Svs K π G (s ++ t) (v ++ w)
  | _, _, _, _, .nil, h => h
  | _, _, _, _, .cons h r, s => .cons h (r.append s)
theorem Svs.set {x : SV} {y : V} (h : Sv K π G x y) : ∀ {s : List SV} {v : List V} (i : Nat), Svs K π G s v → Svs K π G (s.set i x) (v.set i y)
  | _, _, _, .nil => .nil
  | _, _, 0, .cons _ r => .cons h r
  | _, _, i + 1, .cons q r => .cons q (r.set h i)
theorem Svs.ofD : ∀ {d : List PyData} {v : List V}, DqAll K G v d → Svs K π G (d.map SV.dat) v
  | _, _, .nil => .nil
  | _, _, .cons h r => .cons (.dat h) (Svs.ofD r)
theorem Slots.length : ∀ {s : Rho} {v : L2.St}, Slots K π G s v → s.length = v.length
  | _, _, .nil => rfl
  | _, _, .skip r => by rw [List.length_cons, List.length_cons, r.length]
  | _, _, .hold _ r => by rw [List.length_cons, List.length_cons, r.length]
theorem Slots.get : ∀ {ρ : Rho} {σ : L2.St} {i : Nat} {x : SV}, Slots K π G ρ σ → ρ[i]? = some (some x) → ∃ y, σ[i]? = some (some y) ∧ Sv K π G x y
  | _, _, _, _, .nil, h => by simp at h
  | _, _, 0, _, .skip _, e => by simp at e
  | _, _, 0, _, .hold h _, e => by simp at e; subst e; exact ⟨_, rfl, h⟩
  | _, _, i + 1, _, .skip r, e => by
    obtain ⟨y, h1, h2⟩ := r.get (i := i) (by simpa using e)
    exact ⟨y, by simpa using h1, h2⟩
  | _, _, i + 1, _, .hold _ r, e => by
    obtain ⟨y, h1, h2⟩ := r.get (i := i) (by simpa using e)
    exact ⟨y, by simpa using h1, h2⟩
theorem Slots.set {x : SV} {y : V} (h : Sv K π G x y) : ∀ {ρ : Rho} {σ : L2.St} (i : Nat), Slots K π G ρ σ → Slots K π G (ρ.set i (some x)) (σ.set i (some y))
  | _, _, _, .nil => .nil
  | _, _, 0, .skip r => .hold h r
  | _, _, 0, .hold _ r => .hold h r
  | _, _, i + 1, .skip r => .skip (r.set h i)
  | _, _, i + 1, .hold q r => .hold q (r.set h i)
theorem Slots.unset : ∀ {ρ : Rho} {σ : L2.St} (i : Nat), Slots K π G ρ σ → Slots K π G (ρ.set i none) (σ.set i none)
  | _, _, _, .nil => .nil
  | _, _, 0, .skip r => .skip r
  | _, _, 0, .hold _ r => .skip r
  | _, _, i + 1, .skip r => .skip (r.unset i)
  | _, _, i + 1, .hold q r => .hold q (r.unset i)
def wipeR (ρ : Rho) : List Nat → Rho
  | [] => ρ
  | v :: vs => (wipeR ρ vs).set v none
theorem Slots.wiped {ρ : Rho} {σ : L2.St} (h : Slots K π G ρ σ) : ∀ vs : List Nat, Slots K π G (wipeR ρ vs) (wipe σ vs)
  | [] => h
  | v :: vs => by
    show Slots K π G ((wipeR ρ vs).set v none) ((wipe σ vs).set v none)
    exact (h.wiped vs).unset v
end
theorem set_none_comm (σ : L2.St) (i j : Nat) (x y : Option V) (h : i ≠ j) : (σ.set i x).set j y = (σ.set j y).set i x := List.set_comm x y h
theorem wipe_set {σ : L2.St} {i : Nat} {y : Option V} : ∀ {vs : List Nat}, i ∈ vs → wipe (σ.set i y) vs = wipe σ vs
  | [], h => by cases h
  | v :: vs, h => by
    show (wipe (σ.set i y) vs).set v none = (wipe σ vs).set v none
    by_cases hv : i ∈ vs
    · rw [wipe_set hv]
    · rcases List.mem_cons.mp h with e | e
      · subst e
        have key : ∀ (ws : List Nat), i ∉ ws → wipe (σ.set i y) ws = (wipe σ ws).set i y := by
          intro ws
          induction ws with
          | nil => intro _; rfl
          | cons w ws ih =>
            intro hw
            show (wipe (σ.set i y) ws).set w none = ((wipe σ ws).set w none).set i y
            rw [ih (fun q => hw (List.mem_cons_of_mem _ q)), List.set_comm]
            intro e; exact hw (e ▸ List.mem_cons_self)
        rw [key vs hv, List.set_set]
      · exact absurd e hv
theorem wipe_wipe (σ : L2.St) : ∀ vs ws : List Nat, (∀ v ∈ vs, v ∈ ws) → wipe (wipe σ vs) ws = wipe σ ws
  | [], _, _ => rfl
  | v :: vs, ws, h => by
    show wipe ((wipe σ vs).set v none) ws = wipe σ ws
    rw [wipe_set (h v List.mem_cons_self), wipe_wipe σ vs ws (fun u hu => h u (List.mem_cons_of_mem _ hu))]

/-- the plain side and the heap: F what others hold, G what nobody changes, M what may change -/
structure Rel (K : PySem.W.Frag) (F : Hp) (π : List Addr) (G H : Hp) (M : Mem) : Prop where
  ex : Same G H
  fr : ∀ a o, F a = some o → H a = some o ∧ G a = none
  len : π.length = M.length
  mem : ∀ (i : Nat) (xs : List SV), M[i]? = some (some xs) → ∃ a vs, π[i]? = some a ∧ F a = none ∧ G a = none ∧ H a = some (.lst vs) ∧ Svs K π G xs vs
  inj : ∀ (i j : Nat) (xs ys : List SV) (a : Addr), M[i]? = some (some xs) → M[j]? = some (some ys) → π[i]? = some a → π[j]? = some a → i = j
  wf : ∀ (i : Nat) (xs : List SV), M[i]? = some (some xs) → ∀ j : Nat, SV.cel j ∈ xs → j < i

/-- at most one new object, that nobody changes -/
inductive Al (G H : Hp) : Hp → Hp → Prop
  | same : Al G H G H
  | new {p : Addr} {o : HO} : H p = none → Al G H (upd G p o) (upd H p o)
theorem same_upd {H : Hp} {p : Addr} {o : HO} (h : H p = none) : Same H (upd H p o) := fun b x e => by
  rw [upd_ne (ne_of_none e h)]
  exact e
theorem none_of_same {G H : Hp} {p : Addr} (e : Same G H) (h : H p = none) : G p = none := Same.free e h
section
variable {K : PySem.W.Frag} {F : Hp} {π : List Addr} {G H G' H' : Hp} {M : Mem}
theorem Rel.alSame (r : Rel K F π G H M) (a : Al G H G' H') : Same G G' := by
  cases a with
  | same => exact Same.refl G
  | new h => exact same_upd (none_of_same r.ex h)
theorem Rel.al (r : Rel K F π G H M) (a : Al G H G' H') : Rel K F π G' H' M := by
  cases a with
  | same => exact r
  | @new p o h =>
    have hg : G p = none := none_of_same r.ex h
    refine ⟨fun b x e => ?_, fun b x e => ?_, r.len, fun i xs e => ?_, r.inj, r.wf⟩
    · by_cases hb : b = p
      · subst hb; rw [upd_same] at e ⊢; exact e
      · rw [upd_ne hb] at e ⊢; exact r.ex _ _ e
    · obtain ⟨h1, h2⟩ := r.fr b x e
      have hb : b ≠ p := ne_of_none h1 h
      rw [upd_ne hb, upd_ne hb]; exact ⟨h1, h2⟩
    · obtain ⟨a, vs, h1, h2, h3, h4, h5⟩ := r.mem i xs e
      have hb : a ≠ p := ne_of_none h4 h
      refine ⟨a, vs, h1, h2, ?_, ?_, h5.mono0 (same_upd hg)⟩
      · rw [upd_ne hb]; exact h3
      · rw [upd_ne hb]; exact h4
/-- a new list that may change -/
theorem Rel.push (r : Rel K F π G H M) {p : Addr} {xs : List SV} {vs : List V} (h : H p = none) (s : Svs K π G xs vs) : Rel K F (π ++ [p]) G (upd H p (.lst vs)) (M ++ [some xs]) := by
  have hg : G p = none := none_of_same r.ex h
  have hf : F p = none := by
    cases q : F p with
    | none => rfl
    | some o => rw [(r.fr p o q).1] at h; cases h
  have old : ∀ (i : Nat) (ys : List SV), (M ++ [some xs])[i]? = some (some ys) → (i < M.length ∧ M[i]? = some (some ys)) ∨ (i = M.length ∧ ys = xs) := by
    intro i ys e
    by_cases hi : i < M.length
    · rw [List.getElem?_append_left hi] at e; exact .inl ⟨hi, e⟩
    · rw [List.getElem?_append_right (by omega)] at e
      have hz : i - M.length = 0 := by
        by_cases hz : i - M.length = 0
        · exact hz
        · rw [List.getElem?_eq_none (by simp; omega)] at e; cases e
      rw [hz] at e
      simp at e
      exact .inr ⟨by omega, e.symm⟩
  have at1 : (π ++ [p])[M.length]? = some p := by
    rw [List.getElem?_append_right (by rw [r.len]; exact Nat.le_refl _), r.len, Nat.sub_self]; rfl
  refine ⟨fun b x e => ?_, fun b x e => ?_, by simp [r.len], fun i ys e => ?_, fun i j ys zs a e1 e2 e3 e4 => ?_, fun i ys e j hj => ?_⟩
  · have hb : b ≠ p := fun z => by rw [z, hg] at e; cases e
    rw [upd_ne hb]; exact r.ex _ _ e
  · obtain ⟨h1, h2⟩ := r.fr b x e
    have hb : b ≠ p := ne_of_none h1 h
    rw [upd_ne hb]; exact ⟨h1, h2⟩
  · rcases old i ys e with ⟨hi, e⟩ | ⟨hi, e⟩
    · obtain ⟨a, vs', h1, h2, h3, h4, h5⟩ := r.mem i ys e
      have hb : a ≠ p := ne_of_none h4 h
      exact ⟨a, vs', ix_app h1, h2, h3, by rw [upd_ne hb]; exact h4, h5.mono (Same.refl G)⟩
    · subst e; subst hi
      exact ⟨p, vs, at1, hf, hg, upd_same, s.mono (Same.refl G)⟩
  · have ne : ∀ (i : Nat) (ys : List SV), M[i]? = some (some ys) → (π ++ [p])[i]? = some a → a ≠ p := by
      intro i ys e q
      obtain ⟨b, _, h1, _, _, h4, _⟩ := r.mem i ys e
      have : (π ++ [p])[i]? = some b := ix_app h1
      rw [this] at q; cases q
      exact ne_of_none h4 h
    rcases old i ys e1 with ⟨hi, e1⟩ | ⟨hi, e1⟩ <;> rcases old j zs e2 with ⟨hj, e2⟩ | ⟨hj, e2⟩
    · rw [List.getElem?_append_left (by rw [r.len]; exact hi)] at e3
      rw [List.getElem?_append_left (by rw [r.len]; exact hj)] at e4
      exact r.inj i j ys zs a e1 e2 e3 e4
    · subst hj
      rw [at1] at e4; cases e4
      exact absurd rfl (ne i ys e1 e3)
    · subst hi
      rw [at1] at e3; cases e3
      exact absurd rfl (ne j zs e2 e4)
    · omega
  · rcases old i ys e with ⟨hi, e⟩ | ⟨hi, e⟩
    · exact r.wf i ys e j hj
    · subst e; subst hi
      have := s.refs hj
      rw [r.len] at this
      exact this
/-- a list is changed -/
theorem Rel.write (r : Rel K F π G H M) {i : Nat} {a : Addr} {xs ys : List SV} {vs : List V} (hi : M[i]? = some (some xs)) (ha : π[i]? = some a) (s : Svs K π G ys vs) (hw : ∀ j : Nat, SV.cel j ∈ ys → SV.cel j ∈ xs) : Rel K F π G (upd H a (.lst vs)) (M.set i (some ys)) := by
  obtain ⟨a', vs', h1, h2, h3, h4, h5⟩ := r.mem i xs hi
  rw [ha] at h1; cases h1
  have hlt : i < M.length := (List.getElem?_eq_some_iff.mp hi).1
  have old : ∀ (j : Nat) (zs : List SV), (M.set i (some ys))[j]? = some (some zs) → (j = i ∧ zs = ys) ∨ (j ≠ i ∧ M[j]? = some (some zs)) := by
    intro j zs e
    by_cases hj : j = i
    · subst hj
      rw [List.getElem?_set_self hlt] at e
      exact .inl ⟨rfl, by cases e; rfl⟩
    · rw [List.getElem?_set_ne (Ne.symm hj)] at e; exact .inr ⟨hj, e⟩
  have was : ∀ (j : Nat) (zs : List SV), (M.set i (some ys))[j]? = some (some zs) → ∃ zs', M[j]? = some (some zs') := by
    intro j zs e
    rcases old j zs e with ⟨rfl, _⟩ | ⟨_, e⟩
    · exact ⟨_, hi⟩
    · exact ⟨_, e⟩
  refine ⟨fun b x e => ?_, fun b x e => ?_, by rw [List.length_set]; exact r.len, fun j zs e => ?_, fun j k zs ws b e1 e2 e3 e4 => ?_, fun j zs e k hk => ?_⟩
  · have hb : b ≠ a := fun z => by rw [z, h3] at e; cases e
    rw [upd_ne hb]; exact r.ex _ _ e
  · obtain ⟨q1, q2⟩ := r.fr b x e
    have hb : b ≠ a := fun z => by rw [z, h2] at e; cases e
    rw [upd_ne hb]; exact ⟨q1, q2⟩
  · rcases old j zs e with ⟨rfl, rfl⟩ | ⟨hj, e⟩
    · exact ⟨a, vs, ha, h2, h3, upd_same, s⟩
    · obtain ⟨b, ws, q1, q2, q3, q4, q5⟩ := r.mem j zs e
      have hb : b ≠ a := fun z => hj (r.inj j i zs xs a e hi (z ▸ q1) ha)
      exact ⟨b, ws, q1, q2, q3, by rw [upd_ne hb]; exact q4, q5⟩
  · obtain ⟨_, f1⟩ := was j zs e1
    obtain ⟨_, f2⟩ := was k ws e2
    exact r.inj j k _ _ b f1 f2 e3 e4
  · rcases old j zs e with ⟨rfl, rfl⟩ | ⟨_, e⟩
    · exact r.wf j xs hi k (hw k hk)
    · exact r.wf j zs e k hk
/-- a list that will not change any more -/
theorem Rel.freeze (r : Rel K F π G H M) {i : Nat} {a : Addr} {xs : List SV} {vs : List V} (hi : M[i]? = some (some xs)) (ha : π[i]? = some a) (hH : H a = some (.lst vs)) : Rel K F π (upd G a (.lst vs)) H (M.set i none) ∧ Same G (upd G a (.lst vs)) := by
  obtain ⟨a', vs', h1, h2, h3, h4, h5⟩ := r.mem i xs hi
  rw [ha] at h1; cases h1
  have hlt : i < M.length := (List.getElem?_eq_some_iff.mp hi).1
  have old : ∀ (j : Nat) (zs : List SV), (M.set i none)[j]? = some (some zs) → j ≠ i ∧ M[j]? = some (some zs) := by
    intro j zs e
    by_cases hj : j = i
    · subst hj
      rw [List.getElem?_set_self hlt] at e; cases e
    · rw [List.getElem?_set_ne (Ne.symm hj)] at e; exact ⟨hj, e⟩
  have sg : Same G (upd G a (.lst vs)) := same_upd h3
  refine ⟨⟨fun b x e => ?_, fun b x e => ?_, by rw [List.length_set]; exact r.len, fun j zs e => ?_, fun j k zs ws b e1 e2 e3 e4 => ?_, fun j zs e => r.wf j zs (old j zs e).2⟩, sg⟩
  · by_cases hb : b = a
    · subst hb; rw [upd_same] at e; cases e; exact hH
    · rw [upd_ne hb] at e; exact r.ex _ _ e
  · obtain ⟨q1, q2⟩ := r.fr b x e
    have hb : b ≠ a := fun z => by rw [z, h2] at e; cases e
    rw [upd_ne hb]; exact ⟨q1, q2⟩
  · obtain ⟨hj, e⟩ := old j zs e
    obtain ⟨b, ws, q1, q2, q3, q4, q5⟩ := r.mem j zs e
    have hb : b ≠ a := fun z => hj (r.inj j i zs xs a e hi (z ▸ q1) ha)
    exact ⟨b, ws, q1, q2, by rw [upd_ne hb]; exact q3, q4, q5.mono0 sg⟩
  · exact r.inj j k _ _ b (old j zs e1).2 (old k ws e2).2 e3 e4
/-- a callee's own lists are forgotten -/
theorem Rel.cut {more : List Addr} (r : Rel K F (π ++ more) G H M) : Rel K F π G H (M.take π.length) := by
  have old : ∀ (j : Nat) (zs : List SV), (M.take π.length)[j]? = some (some zs) → j < π.length ∧ M[j]? = some (some zs) := by
    intro j zs e
    rw [List.getElem?_take] at e
    split at e
    · rename_i h; exact ⟨h, e⟩
    · cases e
  have at1 : ∀ {j : Nat} {a : Addr}, j < π.length → (π ++ more)[j]? = some a → π[j]? = some a := by
    intro j a hj e
    rw [List.getElem?_append_left hj] at e; exact e
  refine ⟨r.ex, r.fr, ?_, fun j zs e => ?_, fun j k zs ws b e1 e2 e3 e4 => ?_, fun j zs e => r.wf j zs (old j zs e).2⟩
  · have := r.len
    rw [List.length_append] at this
    rw [List.length_take]; omega
  · obtain ⟨hj, e'⟩ := old j zs e
    obtain ⟨b, ws, q1, q2, q3, q4, q5⟩ := r.mem j zs e'
    refine ⟨b, ws, at1 hj q1, q2, q3, q4, ?_⟩
    have hz : ∀ k : Nat, SV.cel k ∈ zs → k < π.length := fun k hk => Nat.lt_trans (r.wf j zs e' k hk) hj
    clear e e' q4
    induction q5 with
    | nil => exact .nil
    | cons h _ ih =>
      refine .cons ?_ (ih (fun k hk => hz k (List.mem_cons_of_mem _ hk)))
      cases h with
      | dat h => exact .dat h
      | cel h => exact .cel (at1 (hz _ List.mem_cons_self) h)
  · obtain ⟨hj, e1'⟩ := old j zs e1
    obtain ⟨hk, e2'⟩ := old k ws e2
    exact r.inj j k _ _ b e1' e2' (ix_app e3) (ix_app e4)
/-- a framed object -/
theorem Rel.frame (r : Rel K F π G H M) {p : Addr} {o : HO} (h : H p = none) : Rel K (upd F p o) π G (upd H p o) M := by
  have hg : G p = none := none_of_same r.ex h
  refine ⟨fun b x e => ?_, fun b x e => ?_, r.len, fun i xs e => ?_, r.inj, r.wf⟩
  · have hb : b ≠ p := fun z => by rw [z, hg] at e; cases e
    rw [upd_ne hb]; exact r.ex _ _ e
  · by_cases hb : b = p
    · subst hb; rw [upd_same] at e; cases e; exact ⟨upd_same, hg⟩
    · rw [upd_ne hb] at e
      rw [upd_ne hb]; exact r.fr _ _ e
  · obtain ⟨a, vs, h1, h2, h3, h4, h5⟩ := r.mem i xs e
    have hb : a ≠ p := ne_of_none h4 h
    exact ⟨a, vs, h1, by rw [upd_ne hb]; exact h2, h3, by rw [upd_ne hb]; exact h4, h5⟩
theorem Rel.framed (r : Rel K F π G H M) {p : Addr} {o o' : HO} (h : F p = some o) : Rel K (upd F p o') π G (upd H p o') M := by
  obtain ⟨_, hg⟩ := r.fr p o h
  refine ⟨fun b x e => ?_, fun b x e => ?_, r.len, fun i xs e => ?_, r.inj, r.wf⟩
  · have hb : b ≠ p := fun z => by rw [z, hg] at e; cases e
    rw [upd_ne hb]; exact r.ex _ _ e
  · by_cases hb : b = p
    · subst hb; rw [upd_same] at e; cases e; exact ⟨upd_same, hg⟩
    · rw [upd_ne hb] at e
      rw [upd_ne hb]; exact r.fr _ _ e
  · obtain ⟨a, vs, h1, h2, h3, h4, h5⟩ := r.mem i xs e
    have hb : a ≠ p := fun z => by rw [z, h] at h2; cases h2
    exact ⟨a, vs, h1, by rw [upd_ne hb]; exact h2, h3, by rw [upd_ne hb]; exact h4, h5⟩
theorem Rel.unframe {p : Addr} {o : HO} (r : Rel K (upd F p o) π G H M) (hF : F p = none) : Rel K F π (upd G p o) H M ∧ Same G (upd G p o) := by
  obtain ⟨hH, hg⟩ := r.fr p o upd_same
  have sg : Same G (upd G p o) := same_upd hg
  refine ⟨⟨fun b x e => ?_, fun b x e => ?_, r.len, fun i xs e => ?_, r.inj, r.wf⟩, sg⟩
  · by_cases hb : b = p
    · subst hb; rw [upd_same] at e; cases e; exact hH
    · rw [upd_ne hb] at e; exact r.ex _ _ e
  · have hb : b ≠ p := fun z => by rw [z, hF] at e; cases e
    rw [upd_ne hb]; exact r.fr _ _ (by rw [upd_ne hb]; exact e)
  · obtain ⟨a, vs, h1, h2, h3, h4, h5⟩ := r.mem i xs e
    have hb : a ≠ p := fun z => by rw [z, upd_same] at h2; cases h2
    rw [upd_ne hb] at h2
    exact ⟨a, vs, h1, h2, by rw [upd_ne hb]; exact h3, h4, h5.mono0 sg⟩
theorem Rel.frNone (r : Rel K F π G H M) {p : Addr} (h : H p = none) : F p = none := by
  cases q : F p with
  | none => rfl
  | some o => rw [(r.fr p o q).1] at h; cases h
end
end Sm

namespace Sm
open PySem PySem.Spec PyProof.Rows L2

abbrev SE := Rho → Mem → Option (SV × Mem)
abbrev SA := Rho → Mem → Option (List SV × Mem)
abbrev SB := Rho → Mem → Option (Bool × Mem)
abbrev SI := Rho → Mem → Option (List PyData × Mem)
abbrev SO := Rho → Mem → Option (Option Int × Mem)
abbrev SG := SV → Rho → Mem → Option (Rho × Mem)
abbrev SF := List SV → Mem → Option (SV × Mem)
inductive Ctl where
  | nx (ρ : Rho) (M : Mem)
  | rt (r : SV) (M : Mem)
  | bk (ρ : Rho) (M : Mem)
  | ct (ρ : Rho) (M : Mem)
abbrev SS := Rho → Mem → Option Ctl

/-- what was known stays known -/
structure Gr (π π' : List Addr) (G G' : Hp) : Prop where
  s : Same G G'
  p : ∃ more, π' = π ++ more
section
variable {K : PySem.W.Frag} {F : Hp} {π π' π'' : List Addr} {G H G' H' G'' : Hp} {M : Mem}
theorem Gr.refl : Gr π π G G := ⟨Same.refl G, [], (List.append_nil π).symm⟩
theorem Gr.trans (a : Gr π π' G G') (b : Gr π' π'' G' G'') : Gr π π'' G G'' := by
  obtain ⟨s, m, rfl⟩ := a
  obtain ⟨s', m', rfl⟩ := b
  exact ⟨s.trans s', m ++ m', by rw [List.append_assoc]⟩
theorem Gr.of (s : Same G G') : Gr π π G G' := ⟨s, [], (List.append_nil π).symm⟩
theorem Sv.gr (g : Gr π π' G G') {s : SV} {v : V} (h : Sv K π G s v) : Sv K π' G' s v := by
  obtain ⟨s, m, rfl⟩ := g; exact h.mono s
theorem Svs.gr (g : Gr π π' G G') {s : List SV} {v : List V} (h : Svs K π G s v) : Svs K π' G' s v := by
  obtain ⟨s, m, rfl⟩ := g; exact h.mono s
theorem Slots.gr (g : Gr π π' G G') {s : Rho} {v : L2.St} (h : Slots K π G s v) : Slots K π' G' s v := by
  obtain ⟨s, m, rfl⟩ := g; exact h.mono s
end

/-! ### a reading keeps to a plain function -/
def EvS (K : PySem.W.Frag) (t : TE) (e : SE) : Prop := ∀ ρ M r M', e ρ M = some (r, M') → ∀ F π G H σ, Rel K F π G H M → Slots K π G ρ σ →
  ∀ Q : VK, (∀ π' G' H' v, Gr π π' G G' → Rel K F π' G' H' M' → Sv K π' G' r v → Q v H') → t σ H Q
def EvA (K : PySem.W.Frag) (t : TA) (e : SA) : Prop := ∀ ρ M r M', e ρ M = some (r, M') → ∀ F π G H σ, Rel K F π G H M → Slots K π G ρ σ →
  ∀ Q : List V → Hp → Prop, (∀ π' G' H' v, Gr π π' G G' → Rel K F π' G' H' M' → Svs K π' G' r v → Q v H') → t σ H Q
def EvB (K : PySem.W.Frag) (t : TT) (e : SB) : Prop := ∀ ρ M r M', e ρ M = some (r, M') → ∀ F π G H σ, Rel K F π G H M → Slots K π G ρ σ →
  ∀ Q : Bool → Hp → Prop, (∀ π' G' H', Gr π π' G G' → Rel K F π' G' H' M' → Q r H') → t σ H Q
def EvO (K : PySem.W.Frag) (t : TO) (e : SO) : Prop := ∀ ρ M r M', e ρ M = some (r, M') → ∀ F π G H σ, Rel K F π G H M → Slots K π G ρ σ →
  ∀ Q : Option Int → Hp → Prop, (∀ π' G' H', Gr π π' G G' → Rel K F π' G' H' M' → Q r H') → t σ H Q
def EvG (K : PySem.W.Frag) (g : TG) (s : SG) : Prop := ∀ r ρ M ρ' M', s r ρ M = some (ρ', M') → ∀ F π G H v σ, Rel K F π G H M → Slots K π G ρ σ → Sv K π G r v →
  ∀ Q : L2.St → Hp → Prop, (∀ π' G' H' σ', Gr π π' G G' → Rel K F π' G' H' M' → Slots K π' G' ρ' σ' → Q σ' H') → g v σ H Q
/-- what an iterator gives -/
structure ItOk (K : PySem.W.Frag) (G : Hp) (J : It) (ds : List PyData) : Prop where
  go : ∀ i H, Same G H → i < ds.length → J.go i H
  stop : ∀ i H, Same G H → ds.length ≤ i → J.stop i H
  yld : ∀ i H x H' G2, Same G G2 → Same G2 H → J.yld i H x H' → i < ds.length → ∃ d G3, ds[i]? = some d ∧ Al G2 H G3 H' ∧ Dq K G3 x d
def EvI (K : PySem.W.Frag) (t : TI) (e : SI) : Prop := ∀ ρ M r M', e ρ M = some (r, M') → ∀ F π G H σ, Rel K F π G H M → Slots K π G ρ σ →
  ∀ R : It → Hp → Prop, (∀ π' G' H' J, Gr π π' G G' → Rel K F π' G' H' M' → ItOk K G' J r → R J H') → t σ H R
def EndOk (K : PySem.W.Frag) (F : Hp) (π : List Addr) (G : Hp) (D : Ends) : Ctl → Prop
  | .nx ρ M => ∀ π' G' H' σ', Gr π π' G G' → Rel K F π' G' H' M → Slots K π' G' ρ σ' → D.nx σ' H'
  | .rt r M => ∀ π' G' H' v, Gr π π' G G' → Rel K F π' G' H' M → Sv K π' G' r v → D.rt v H'
  | .bk ρ M => ∀ π' G' H' σ', Gr π π' G G' → Rel K F π' G' H' M → Slots K π' G' ρ σ' → D.bk σ' H'
  | .ct ρ M => ∀ π' G' H' σ', Gr π π' G G' → Rel K F π' G' H' M → Slots K π' G' ρ σ' → D.ct σ' H'
def EvT (K : PySem.W.Frag) (t : TS) (s : SS) : Prop := ∀ ρ M c, s ρ M = some c → ∀ F π G H σ, Rel K F π G H M → Slots K π G ρ σ → ∀ D, EndOk K F π G D c → t D σ H
theorem EndOk.gr {K : PySem.W.Frag} {F : Hp} {π π' : List Addr} {G G' : Hp} {D : Ends} (g : Gr π π' G G') : ∀ {c : Ctl}, EndOk K F π G D c → EndOk K F π' G' D c
  | .nx _ _, h => fun _ _ _ _ g' => h _ _ _ _ (g.trans g')
  | .rt _ _, h => fun _ _ _ _ g' => h _ _ _ _ (g.trans g')
  | .bk _ _, h => fun _ _ _ _ g' => h _ _ _ _ (g.trans g')
  | .ct _ _, h => fun _ _ _ _ g' => h _ _ _ _ (g.trans g')

/-- two values; one; a call on values -/
def OpS (K : PySem.W.Frag) (r : R2) (f : Mem → SV → SV → Option SV) : Prop := ∀ M x y z, f M x y = some z → ∀ F π G H v w, Rel K F π G H M → Sv K π G x v → Sv K π G y w →
  ∀ Q : VK, (∀ G' H' u, Al G H G' H' → Sv K π G' z u → Q u H') → r v w H Q
def UnS (K : PySem.W.Frag) (r : V → Hp → VK → Prop) (f : Mem → SV → Option SV) : Prop := ∀ M x z, f M x = some z → ∀ F π G H v, Rel K F π G H M → Sv K π G x v →
  ∀ Q : VK, (∀ G' H' u, Al G H G' H' → Sv K π G' z u → Q u H') → r v H Q
def CaS (K : PySem.W.Frag) (r : List V → Hp → VK → Prop) (f : Mem → List SV → Option SV) : Prop := ∀ M x z, f M x = some z → ∀ F π G H v, Rel K F π G H M → Svs K π G x v →
  ∀ Q : VK, (∀ G' H' u, Al G H G' H' → Sv K π G' z u → Q u H') → r v H Q
def SlS (K : PySem.W.Frag) (r : V → Option Int → Option Int → Hp → VK → Prop) (f : Mem → SV → Option Int → Option Int → Option SV) : Prop := ∀ M x l u z, f M x l u = some z → ∀ F π G H v, Rel K F π G H M → Sv K π G x v →
  ∀ Q : VK, (∀ G' H' u, Al G H G' H' → Sv K π G' z u → Q u H') → r v l u H Q

/-! ### the plain functions -/
def eVar (i : Nat) : SE := fun ρ M => match ρ[i]? with
  | some (some v) => some (v, M)
  | _ => none
def eC (d : PyData) : SE := fun _ M => some (.dat d, M)
def eOp (f : Mem → SV → SV → Option SV) (a b : SE) : SE := fun ρ M => (a ρ M).bind fun x => (b ρ x.2).bind fun y => (f y.2 x.1 y.1).bind fun z => some (z, y.2)
def eUn (f : Mem → SV → Option SV) (a : SE) : SE := fun ρ M => (a ρ M).bind fun x => (f x.2 x.1).bind fun z => some (z, x.2)
def eSl (f : Mem → SV → Option Int → Option Int → Option SV) (a : SE) (l u : SO) : SE := fun ρ M => (a ρ M).bind fun x => (l ρ x.2).bind fun y => (u ρ y.2).bind fun z => (f z.2 x.1 y.1 z.1).bind fun w => some (w, z.2)
def oNone : SO := fun _ M => some (none, M)
def oSome (a : SE) : SO := fun ρ M => (a ρ M).bind fun x => match x.1 with
  | .dat (.int i) => some (some i, x.2)
  | _ => none
def aNil : SA := fun _ M => some ([], M)
def aCons (a : SE) (as : SA) : SA := fun ρ M => (a ρ M).bind fun x => (as ρ x.2).bind fun xs => some (x.1 :: xs.1, xs.2)
def eCB (f : Mem → List SV → Option SV) (a : SA) : SE := fun ρ M => (a ρ M).bind fun x => (f x.2 x.1).bind fun z => some (z, x.2)
def eCall (f : SF) (a : SA) : SE := fun ρ M => (a ρ M).bind fun x => f x.1 x.2
/-- all of them data -/
def dats : List SV → Option (List PyData)
  | [] => some []
  | .dat d :: r => (dats r).bind fun ds => some (d :: ds)
  | _ :: _ => none
def eTup (a : SA) : SE := fun ρ M => (a ρ M).bind fun x => (dats x.1).bind fun ds => if ds.length ≤ 100000 then some (.dat (.tuple ds), x.2) else none
def eLst (a : SA) : SE := fun ρ M => (a ρ M).bind fun x => (dats x.1).bind fun ds => if ds.length ≤ 100000 then some (.dat (.list ds), x.2) else none
/-- a list that may change -/
def eNew (a : SA) : SE := fun ρ M => (a ρ M).bind fun x => if x.1.length ≤ 100000 then some (.cel x.2.length, x.2 ++ [some x.1]) else none
def bVal (a : SE) : SB := fun ρ M => (a ρ M).bind fun x => match x.1 with
  | .dat (.bool b) => some (b, x.2)
  | _ => none
def bAnd (a b : SB) : SB := fun ρ M => (a ρ M).bind fun x => if x.1 = true then b ρ x.2 else some (false, x.2)
def bOr (a b : SB) : SB := fun ρ M => (a ρ M).bind fun x => if x.1 = true then some (true, x.2) else b ρ x.2
def bNot (a : SB) : SB := fun ρ M => (a ρ M).bind fun x => some (!x.1, x.2)
def eAnd (a b : SE) : SE := fun ρ M => (a ρ M).bind fun x => match x.1 with
  | .dat (.bool c) => if c = true then b ρ x.2 else some (.dat (.bool false), x.2)
  | _ => none
def eOr (a b : SE) : SE := fun ρ M => (a ρ M).bind fun x => match x.1 with
  | .dat (.bool c) => if c = true then some (.dat (.bool true), x.2) else b ρ x.2
  | _ => none
def eNot (a : SE) : SE := fun ρ M => (a ρ M).bind fun x => match x.1 with
  | .dat (.bool c) => some (.dat (.bool (!c)), x.2)
  | _ => none
def eIf (c : SB) (a b : SE) : SE := fun ρ M => (c ρ M).bind fun x => if x.1 = true then a ρ x.2 else b ρ x.2
def eChain (f f' : Mem → SV → SV → Option SV) (a b c : SE) : SE := fun ρ M => (a ρ M).bind fun x => (b ρ x.2).bind fun y => (f y.2 x.1 y.1).bind fun z => match z with
  | .dat (.bool k) => if k = true then (c ρ y.2).bind fun w => (f' w.2 y.1 w.1).bind fun u => some (u, w.2) else some (.dat (.bool false), y.2)
  | _ => none

section
variable {K : PySem.W.Frag} {ta tb tc : TE} {a b c : SE}
theorem ev_var {i : Nat} : EvS K (tVar i) (eVar i) := by
  intro ρ M r M' h F π G H σ R S Q q
  unfold eVar at h
  split at h
  · rename_i v e
    cases h
    obtain ⟨y, h1, h2⟩ := S.get e
    exact ⟨y, h1, q π G H y Gr.refl R h2⟩
  · cases h
theorem ev_c {v : V} {d : PyData} (hd : ∀ G, Dq K G v d) : EvS K (tC v) (eC d) := by
  intro ρ M r M' h F π G H σ R S Q q
  cases h
  exact q π G H v Gr.refl R (.dat (hd G))
theorem ev_op {r : R2} {f : Mem → SV → SV → Option SV} (ha : EvS K ta a) (hb : EvS K tb b) (ho : OpS K r f) : EvS K (tOp r ta tb) (eOp f a b) := by
  intro ρ M z M' h F π G H σ R S Q q
  unfold eOp at h
  obtain ⟨⟨x, M1⟩, h1, h⟩ := Option.bind_eq_some_iff.mp h
  obtain ⟨⟨y, M2⟩, h2, h⟩ := Option.bind_eq_some_iff.mp h
  obtain ⟨z', h3, h⟩ := Option.bind_eq_some_iff.mp h
  cases h
  refine ha ρ M x M1 h1 F π G H σ R S _ fun π1 G1 H1 v1 g1 R1 s1 => ?_
  refine hb ρ M1 y M2 h2 F π1 G1 H1 σ R1 (S.gr g1) _ fun π2 G2 H2 v2 g2 R2 s2 => ?_
  exact ho M2 x y z h3 F π2 G2 H2 v1 v2 R2 (s1.gr g2) s2 Q fun G3 H3 u al s3 => q π2 G3 H3 u ((g1.trans g2).trans (.of (R2.alSame al))) (R2.al al) s3
theorem ev_un {r : V → Hp → VK → Prop} {f : Mem → SV → Option SV} (ha : EvS K ta a) (ho : UnS K r f) : EvS K (tUn r ta) (eUn f a) := by
  intro ρ M z M' h F π G H σ R S Q q
  unfold eUn at h
  obtain ⟨⟨x, M1⟩, h1, h⟩ := Option.bind_eq_some_iff.mp h
  obtain ⟨z', h3, h⟩ := Option.bind_eq_some_iff.mp h
  cases h
  refine ha ρ M x M1 h1 F π G H σ R S _ fun π1 G1 H1 v1 g1 R1 s1 => ?_
  exact ho M1 x z h3 F π1 G1 H1 v1 R1 s1 Q fun G3 H3 u al s3 => q π1 G3 H3 u (g1.trans (.of (R1.alSame al))) (R1.al al) s3
theorem ev_oNone : EvO K tNoPart oNone := by
  intro ρ M z M' h F π G H σ R S Q q
  cases h
  exact q π G H Gr.refl R
theorem ev_oSome (ha : EvS K ta a) : EvO K (tPart ta) (oSome a) := by
  intro ρ M z M' h F π G H σ R S Q q
  unfold oSome at h
  obtain ⟨⟨x, M1⟩, h1, h⟩ := Option.bind_eq_some_iff.mp h
  refine ha ρ M x M1 h1 F π G H σ R S _ fun π1 G1 H1 v1 g1 R1 s1 => ?_
  cases s1 with
  | dat hd =>
    cases hd with
    | int i =>
      cases h
      exact ⟨i, rfl, q π1 G1 H1 g1 R1⟩
    | _ => cases h
  | cel _ => cases h
theorem ev_sl {r : V → Option Int → Option Int → Hp → VK → Prop} {f : Mem → SV → Option Int → Option Int → Option SV} {tl tu : TO} {l u : SO} (ha : EvS K ta a) (hl : EvO K tl l) (hu : EvO K tu u) (ho : SlS K r f) : EvS K (tSl r ta tl tu) (eSl f a l u) := by
  intro ρ M z M' h F π G H σ R S Q q
  unfold eSl at h
  obtain ⟨⟨x, M1⟩, h1, h⟩ := Option.bind_eq_some_iff.mp h
  obtain ⟨⟨y, M2⟩, h2, h⟩ := Option.bind_eq_some_iff.mp h
  obtain ⟨⟨w, M3⟩, h3, h⟩ := Option.bind_eq_some_iff.mp h
  obtain ⟨z', h4, h⟩ := Option.bind_eq_some_iff.mp h
  cases h
  refine ha ρ M x M1 h1 F π G H σ R S _ fun π1 G1 H1 v1 g1 R1 s1 => ?_
  refine hl ρ M1 y M2 h2 F π1 G1 H1 σ R1 (S.gr g1) _ fun π2 G2 H2 g2 R2 => ?_
  refine hu ρ M2 w M3 h3 F π2 G2 H2 σ R2 (S.gr (g1.trans g2)) _ fun π3 G3 H3 g3 R3 => ?_
  exact ho M3 x y w z h4 F π3 G3 H3 v1 R3 (s1.gr (g2.trans g3)) Q fun G4 H4 u al s3 => q π3 G4 H4 u (((g1.trans g2).trans g3).trans (.of (R3.alSame al))) (R3.al al) s3
theorem ea_nil : EvA K tNil aNil := by
  intro ρ M z M' h F π G H σ R S Q q
  cases h
  exact q π G H [] Gr.refl R .nil
theorem ea_cons {t : TA} {as : SA} (ha : EvS K ta a) (hs : EvA K t as) : EvA K (tCons ta t) (aCons a as) := by
  intro ρ M z M' h F π G H σ R S Q q
  unfold aCons at h
  obtain ⟨⟨x, M1⟩, h1, h⟩ := Option.bind_eq_some_iff.mp h
  obtain ⟨⟨y, M2⟩, h2, h⟩ := Option.bind_eq_some_iff.mp h
  cases h
  refine ha ρ M x M1 h1 F π G H σ R S _ fun π1 G1 H1 v1 g1 R1 s1 => ?_
  refine hs ρ M1 y M2 h2 F π1 G1 H1 σ R1 (S.gr g1) _ fun π2 G2 H2 v2 g2 R2 s2 => ?_
  exact q π2 G2 H2 _ (g1.trans g2) R2 (.cons (s1.gr g2) s2)
theorem ev_cb {r : List V → Hp → VK → Prop} {f : Mem → List SV → Option SV} {t : TA} {as : SA} (hs : EvA K t as) (ho : CaS K r f) : EvS K (tCB r t) (eCB f as) := by
  intro ρ M z M' h F π G H σ R S Q q
  unfold eCB at h
  obtain ⟨⟨x, M1⟩, h1, h⟩ := Option.bind_eq_some_iff.mp h
  obtain ⟨z', h3, h⟩ := Option.bind_eq_some_iff.mp h
  cases h
  refine hs ρ M x M1 h1 F π G H σ R S _ fun π1 G1 H1 v1 g1 R1 s1 => ?_
  exact ho M1 x z h3 F π1 G1 H1 v1 R1 s1 Q fun G3 H3 u al s3 => q π1 G3 H3 u (g1.trans (.of (R1.alSame al))) (R1.al al) s3
theorem dats_all {π : List Addr} {G : Hp} : ∀ {xs : List SV} {ds : List PyData} {vs : List V}, dats xs = some ds → Svs K π G xs vs → DqAll K G vs ds
  | [], _, _, h, .nil => by cases h; exact .nil
  | .dat d :: r, ds, _, h, .cons s t => by
    unfold dats at h
    obtain ⟨es, h1, h⟩ := Option.bind_eq_some_iff.mp h
    cases h
    cases s with
    | dat hd => exact .cons hd (dats_all h1 t)
  | .cel _ :: _, _, _, h, _ => by simp [dats] at h
theorem sz {n : Nat} (h : n ≤ 100000) : n ≤ sizeLine := Nat.le_trans h (by decide)
theorem szl {n : Nat} (h : n < 100000) : n < sizeLine := Nat.lt_of_lt_of_le h (by decide)
theorem ev_tup {t : TA} {as : SA} (hs : EvA K t as) : EvS K (tTup t) (eTup as) := by
  intro ρ M z M' h F π G H σ R S Q q
  unfold eTup at h
  obtain ⟨⟨x, M1⟩, h1, h⟩ := Option.bind_eq_some_iff.mp h
  obtain ⟨ds, h2, h⟩ := Option.bind_eq_some_iff.mp h
  split at h
  · rename_i hz
    cases h
    refine hs ρ M x M1 h1 F π G H σ R S _ fun π1 G1 H1 v1 g1 R1 s1 => ?_
    have hd := dats_all h2 s1
    refine ⟨sz (by rw [hd.length]; exact hz), fun p hp => ?_⟩
    have al : Al G1 H1 (upd G1 p (.tup v1)) (upd H1 p (.tup v1)) := .new hp
    exact q π1 _ _ _ (g1.trans (.of (R1.alSame al))) (R1.al al) (.dat (.tup (SqT.of upd_same) (hd.mono (R1.alSame al))))
  · cases h
theorem ev_lst {t : TA} {as : SA} (hs : EvA K t as) : EvS K (tLst t) (eLst as) := by
  intro ρ M z M' h F π G H σ R S Q q
  unfold eLst at h
  obtain ⟨⟨x, M1⟩, h1, h⟩ := Option.bind_eq_some_iff.mp h
  obtain ⟨ds, h2, h⟩ := Option.bind_eq_some_iff.mp h
  split at h
  · rename_i hz
    cases h
    refine hs ρ M x M1 h1 F π G H σ R S _ fun π1 G1 H1 v1 g1 R1 s1 => ?_
    have hd := dats_all h2 s1
    refine ⟨sz (by rw [hd.length]; exact hz), fun p hp => ?_⟩
    have al : Al G1 H1 (upd G1 p (.lst v1)) (upd H1 p (.lst v1)) := .new hp
    exact q π1 _ _ _ (g1.trans (.of (R1.alSame al))) (R1.al al) (.dat (.lst (SqL.of upd_same) (hd.mono (R1.alSame al))))
  · cases h
theorem ev_new {t : TA} {as : SA} (hs : EvA K t as) : EvS K (tLst t) (eNew as) := by
  intro ρ M z M' h F π G H σ R S Q q
  unfold eNew at h
  obtain ⟨⟨x, M1⟩, h1, h⟩ := Option.bind_eq_some_iff.mp h
  split at h
  · rename_i hz
    cases h
    refine hs ρ M x M1 h1 F π G H σ R S _ fun π1 G1 H1 v1 g1 R1 s1 => ?_
    refine ⟨sz (by rw [← s1.length]; exact hz), fun p hp => ?_⟩
    refine q (π1 ++ [p]) G1 _ _ (g1.trans ⟨Same.refl G1, [p], rfl⟩) (R1.push hp s1) (.cel ?_)
    show (π1 ++ [p])[M1.length]? = some p
    rw [List.getElem?_append_right (by rw [R1.len]; exact Nat.le_refl _), R1.len, Nat.sub_self]; rfl
  · cases h
theorem eb_B (ha : EvS K ta a) : EvB K (tB ta) (bVal a) := by
  intro ρ M z M' h F π G H σ R S Q q
  unfold bVal at h
  obtain ⟨⟨x, M1⟩, h1, h⟩ := Option.bind_eq_some_iff.mp h
  refine ha ρ M x M1 h1 F π G H σ R S _ fun π1 G1 H1 v1 g1 R1 s1 => ?_
  cases s1 with
  | dat hd =>
    cases hd with
    | bl i =>
      cases h
      exact ⟨_, rfl, q π1 G1 H1 g1 R1⟩
    | _ => cases h
  | cel _ => cases h
theorem eb_test (ha : EvS K ta a) : EvB K (tTest ta) (bVal a) := eb_B ha
theorem eb_tru (ha : EvS K ta a) : EvB K (fun σ H Q => ta σ H fun x H' => ∃ k, TruV K x H' k ∧ Q k H') (bVal a) := by
  intro ρ M z M' h F π G H σ R S Q q
  unfold bVal at h
  obtain ⟨⟨x, M1⟩, h1, h⟩ := Option.bind_eq_some_iff.mp h
  refine ha ρ M x M1 h1 F π G H σ R S _ fun π1 G1 H1 v1 g1 R1 s1 => ?_
  cases s1 with
  | dat hd =>
    cases hd with
    | bl i =>
      cases h
      exact ⟨_, rfl, q π1 G1 H1 g1 R1⟩
    | _ => cases h
  | cel _ => cases h
theorem eb_and {tt tu : TT} {x y : SB} (ha : EvB K tt x) (hb : EvB K tu y) : EvB K (tAnd tt tu) (bAnd x y) := by
  intro ρ M z M' h F π G H σ R S Q q
  unfold bAnd at h
  obtain ⟨⟨v, M1⟩, h1, h⟩ := Option.bind_eq_some_iff.mp h
  refine ha ρ M v M1 h1 F π G H σ R S _ fun π1 G1 H1 g1 R1 => ?_
  cases v with
  | true =>
    rw [if_pos rfl]
    exact hb ρ M1 z M' h F π1 G1 H1 σ R1 (S.gr g1) _ fun π2 G2 H2 g2 R2 => q π2 G2 H2 (g1.trans g2) R2
  | false =>
    cases h
    rw [if_neg Bool.false_ne_true]
    exact q π1 G1 H1 g1 R1
theorem eb_or {tt tu : TT} {x y : SB} (ha : EvB K tt x) (hb : EvB K tu y) : EvB K (tOr tt tu) (bOr x y) := by
  intro ρ M z M' h F π G H σ R S Q q
  unfold bOr at h
  obtain ⟨⟨v, M1⟩, h1, h⟩ := Option.bind_eq_some_iff.mp h
  refine ha ρ M v M1 h1 F π G H σ R S _ fun π1 G1 H1 g1 R1 => ?_
  cases v with
  | false =>
    rw [if_neg Bool.false_ne_true]
    exact hb ρ M1 z M' h F π1 G1 H1 σ R1 (S.gr g1) _ fun π2 G2 H2 g2 R2 => q π2 G2 H2 (g1.trans g2) R2
  | true =>
    cases h
    rw [if_pos rfl]
    exact q π1 G1 H1 g1 R1
theorem eb_not {tt : TT} {x : SB} (ha : EvB K tt x) : EvB K (tNot tt) (bNot x) := by
  intro ρ M z M' h F π G H σ R S Q q
  unfold bNot at h
  obtain ⟨⟨v, M1⟩, h1, h⟩ := Option.bind_eq_some_iff.mp h
  cases h
  exact ha ρ M v _ h1 F π G H σ R S _ fun π1 G1 H1 g1 R1 => q π1 G1 H1 g1 R1
theorem ev_and (ha : EvS K ta a) (hb : EvS K tb b) : EvS K (tAndV ta tb) (eAnd a b) := by
  intro ρ M z M' h F π G H σ R S Q q
  unfold eAnd at h
  obtain ⟨⟨x, M1⟩, h1, h⟩ := Option.bind_eq_some_iff.mp h
  refine ha ρ M x M1 h1 F π G H σ R S _ fun π1 G1 H1 v1 g1 R1 s1 => ?_
  cases s1 with
  | dat hd =>
    cases hd with
    | bl i =>
      refine ⟨i, rfl, ?_⟩
      cases i with
      | true =>
        rw [if_pos rfl]
        exact hb ρ M1 z M' h F π1 G1 H1 σ R1 (S.gr g1) _ fun π2 G2 H2 v g2 R2 s2 => q π2 G2 H2 v (g1.trans g2) R2 s2
      | false =>
        rw [if_neg Bool.false_ne_true]
        cases h
        exact q π1 G1 H1 _ g1 R1 (.dat (.bl false))
    | _ => cases h
  | cel _ => cases h
theorem ev_or (ha : EvS K ta a) (hb : EvS K tb b) : EvS K (tOrV ta tb) (eOr a b) := by
  intro ρ M z M' h F π G H σ R S Q q
  unfold eOr at h
  obtain ⟨⟨x, M1⟩, h1, h⟩ := Option.bind_eq_some_iff.mp h
  refine ha ρ M x M1 h1 F π G H σ R S _ fun π1 G1 H1 v1 g1 R1 s1 => ?_
  cases s1 with
  | dat hd =>
    cases hd with
    | bl i =>
      refine ⟨i, rfl, ?_⟩
      cases i with
      | false =>
        rw [if_neg Bool.false_ne_true]
        exact hb ρ M1 z M' h F π1 G1 H1 σ R1 (S.gr g1) _ fun π2 G2 H2 v g2 R2 s2 => q π2 G2 H2 v (g1.trans g2) R2 s2
      | true =>
        rw [if_pos rfl]
        cases h
        exact q π1 G1 H1 _ g1 R1 (.dat (.bl true))
    | _ => cases h
  | cel _ => cases h
theorem ev_not (ha : EvS K ta a) : EvS K (tNotV ta) (eNot a) := by
  intro ρ M z M' h F π G H σ R S Q q
  unfold eNot at h
  obtain ⟨⟨x, M1⟩, h1, h⟩ := Option.bind_eq_some_iff.mp h
  refine ha ρ M x M1 h1 F π G H σ R S _ fun π1 G1 H1 v1 g1 R1 s1 => ?_
  cases s1 with
  | dat hd =>
    cases hd with
    | bl i =>
      cases h
      exact ⟨i, rfl, q π1 G1 H1 _ g1 R1 (.dat (.bl _))⟩
    | _ => cases h
  | cel _ => cases h
theorem ev_if {tt : TT} {x : SB} (hc : EvB K tt x) (ha : EvS K ta a) (hb : EvS K tb b) : EvS K (tIf tt ta tb) (eIf x a b) := by
  intro ρ M z M' h F π G H σ R S Q q
  unfold eIf at h
  obtain ⟨⟨v, M1⟩, h1, h⟩ := Option.bind_eq_some_iff.mp h
  refine hc ρ M v M1 h1 F π G H σ R S _ fun π1 G1 H1 g1 R1 => ?_
  cases v with
  | true =>
    rw [if_pos rfl]
    exact ha ρ M1 z M' h F π1 G1 H1 σ R1 (S.gr g1) _ fun π2 G2 H2 v g2 R2 s2 => q π2 G2 H2 v (g1.trans g2) R2 s2
  | false =>
    rw [if_neg Bool.false_ne_true]
    exact hb ρ M1 z M' h F π1 G1 H1 σ R1 (S.gr g1) _ fun π2 G2 H2 v g2 R2 s2 => q π2 G2 H2 v (g1.trans g2) R2 s2
theorem ev_chain {r r' : R2} {f f' : Mem → SV → SV → Option SV} (ha : EvS K ta a) (hb : EvS K tb b) (hc : EvS K tc c) (ho : OpS K r f) (ho' : OpS K r' f') : EvS K (tChain r r' ta tb tc) (eChain f f' a b c) := by
  intro ρ M z M' h F π G H σ R S Q q
  unfold eChain at h
  obtain ⟨⟨x, M1⟩, h1, h⟩ := Option.bind_eq_some_iff.mp h
  obtain ⟨⟨y, M2⟩, h2, h⟩ := Option.bind_eq_some_iff.mp h
  obtain ⟨z', h3, h⟩ := Option.bind_eq_some_iff.mp h
  refine ha ρ M x M1 h1 F π G H σ R S _ fun π1 G1 H1 v1 g1 R1 s1 => ?_
  refine hb ρ M1 y M2 h2 F π1 G1 H1 σ R1 (S.gr g1) _ fun π2 G2 H2 v2 g2 R2 s2 => ?_
  refine ho M2 x y z' h3 F π2 G2 H2 v1 v2 R2 (s1.gr g2) s2 _ fun G3 H3 u al s3 => ?_
  have g3 := (g1.trans g2).trans (Gr.of (R2.alSame al))
  have R3 := R2.al al
  cases s3 with
  | dat hd =>
    cases hd with
    | bl i =>
      refine ⟨i, rfl, ?_⟩
      cases i with
      | true =>
        rw [if_pos rfl]
        dsimp only at h
        rw [if_pos rfl] at h
        obtain ⟨⟨w, M3⟩, h4, h⟩ := Option.bind_eq_some_iff.mp h
        obtain ⟨u', h5, h⟩ := Option.bind_eq_some_iff.mp h
        cases h
        refine hc ρ M2 w M3 h4 F π2 G3 H3 σ R3 (S.gr g3) _ fun π4 G4 H4 v4 g4 R4 s4 => ?_
        exact ho' M3 y w _ h5 F π4 G4 H4 v2 v4 R4 ((s2.gr (Gr.of (R2.alSame al))).gr g4) s4 Q fun G5 H5 u al s5 => q π4 G5 H5 u ((g3.trans g4).trans (.of (R4.alSame al))) (R4.al al) s5
      | false =>
        rw [if_neg Bool.false_ne_true]
        cases h
        exact q π2 G3 H3 _ g3 R3 (.dat (.bl false))
    | _ => cases h
  | cel _ => cases h
end
end Sm

namespace Sm
open PySem PySem.Spec PyProof.Rows L2

/-! ### targets -/
def gNm (i : Nat) : SG := fun r ρ M => some (ρ.set i (some r), M)
/-- a tuple's parts to names -/
def setAll : List Nat → List PyData → Rho → Rho
  | i :: is, d :: ds, ρ => setAll is ds (ρ.set i (some (.dat d)))
  | _, _, ρ => ρ
def gTp (is : List Nat) : SG := fun r ρ M => match r with
  | .dat (.tuple ds) => if ds.length = is.length then some (setAll is ds ρ, M) else none
  | _ => none
def gNames : List Nat → TGs
  | [] => gNil
  | i :: is => gCons (gName i) (gNames is)
/-- x[i] = v -/
def gStore (o i : SE) : SG := fun r ρ M => (o ρ M).bind fun x => (i ρ x.2).bind fun y => match x.1, y.1 with
  | .cel c, .dat (.int k) => match y.2[c]?, r with
    | some (some xs), .dat d => (ixN xs.length k).bind fun j => some (ρ, y.2.set c (some (xs.set j (.dat d))))
    | _, _ => none
  | _, _ => none

section
variable {K : PySem.W.Frag}
theorem eg_name {i : Nat} : EvG K (gName i) (gNm i) := by
  intro r ρ M ρ' M' h F π G H v σ R S s Q q
  cases h
  exact q π G H _ Gr.refl R (S.set s i)
theorem eg_names : ∀ {is : List Nat} {ds : List PyData} {vs : List V} {ρ : Rho} {π : List Addr} {G H : Hp} {σ : L2.St} {Q : L2.St → Hp → Prop}, ds.length = is.length → DqAll K G vs ds → Slots K π G ρ σ →
    (∀ σ', Slots K π G (setAll is ds ρ) σ' → Q σ' H) → gNames is vs σ H Q
  | [], [], _, _, _, _, _, _, _, _, .nil, S, q => ⟨rfl, q _ S⟩
  | i :: is, d :: ds, _, _, _, _, _, _, _, hl, .cons h r, S, q => ⟨_, _, rfl, eg_names (by simpa using hl) r (S.set (.dat h) i) q⟩
  | [], _ :: _, _, _, _, _, _, _, _, hl, _, _, _ => by simp at hl
  | _ :: _, [], _, _, _, _, _, _, _, hl, _, _, _ => by simp at hl
theorem eg_tup {is : List Nat} {n : Nat} (hn : n = is.length) : EvG K (gTup K n (gNames is)) (gTp is) := by
  intro r ρ M ρ' M' h F π G H v σ R S s Q q
  subst hn
  unfold gTp at h
  cases s with
  | cel _ => cases h
  | dat hd =>
    cases hd with
    | @tup a xs ds hs ha =>
      dsimp only at h
      split at h
      · rename_i hl
        cases h
        exact ⟨a, xs, rfl, same_sqT R.ex hs, by rw [ha.length, hl], eg_names hl ha S fun σ' S' => q π G H σ' Gr.refl R S'⟩
      · cases h
    | _ => cases h
theorem eg_store {to ti : TE} {o i : SE} (ho : EvS K to o) (hi : EvS K ti i) : EvG K (gSub to ti rSetL) (gStore o i) := by
  intro r ρ M ρ' M' h F π G H v σ R S s Q q
  unfold gStore at h
  obtain ⟨⟨x, M1⟩, h1, h⟩ := Option.bind_eq_some_iff.mp h
  obtain ⟨⟨y, M2⟩, h2, h⟩ := Option.bind_eq_some_iff.mp h
  refine ho ρ M x M1 h1 F π G H σ R S _ fun π1 G1 H1 v1 g1 R1 s1 => ?_
  refine hi ρ M1 y M2 h2 F π1 G1 H1 σ R1 (S.gr g1) _ fun π2 G2 H2 v2 g2 R2 s2 => ?_
  have s1' := s1.gr g2
  cases s1' with
  | dat _ => cases h
  | @cel c a ha =>
    cases s2 with
    | cel _ => cases h
    | dat hd =>
      cases hd with
      | int k =>
        cases s with
        | cel _ =>
          dsimp only at h
          split at h
          · rename_i z; cases z
          · cases h
        | @dat d _ hd =>
        have s : Sv K π G (.dat d) v := .dat hd
        dsimp only at h
        split at h
        · rename_i xs d' hx hdd
          cases hdd
          obtain ⟨j, h3, h⟩ := Option.bind_eq_some_iff.mp h
          cases h
          obtain ⟨a', vs, q1, q2, q3, q4, q5⟩ := R2.mem c xs hx
          rw [ha] at q1; cases q1
          refine ⟨a, vs, k, j, rfl, rfl, q4, by rw [← q5.length]; exact h3, ?_⟩
          refine q π2 G2 _ σ (g1.trans g2) (R2.write hx ha (q5.set (s.gr (g1.trans g2)) j) fun i hi => ?_) (S.gr (g1.trans g2))
          rcases List.mem_or_eq_of_mem_set hi with z | z
          · exact z
          · cases z
        · cases h
      | _ => cases h

/-! ### statements -/
def sNext : SS := fun ρ M => some (.nx ρ M)
def sSeq (s u : SS) : SS := fun ρ M => (s ρ M).bind fun c => match c with
  | .nx ρ' M' => u ρ' M'
  | c => some c
def sAsg (e : SE) (g : SG) : SS := fun ρ M => (e ρ M).bind fun x => (g x.1 ρ x.2).bind fun y => some (.nx y.1 y.2)
def sExpr (e : SE) : SS := fun ρ M => (e ρ M).bind fun x => some (.nx ρ x.2)
def sRet (e : SE) : SS := fun ρ M => (e ρ M).bind fun x => some (.rt x.1 x.2)
def sRetN : SS := fun _ M => some (.rt (.dat .none) M)
def sIf (c : SB) (s u : SS) : SS := fun ρ M => (c ρ M).bind fun x => if x.1 = true then s ρ x.2 else u ρ x.2
def sBrk : SS := fun ρ M => some (.bk ρ M)
def sCnt : SS := fun ρ M => some (.ct ρ M)
def loop (g : SG) (body : SS) : List PyData → SS
  | [] => fun ρ M => some (.nx ρ M)
  | d :: ds => fun ρ M => (g (.dat d) ρ M).bind fun y => (body y.1 y.2).bind fun c => match c with
    | .nx ρ2 M2 => loop g body ds ρ2 M2
    | .ct ρ2 M2 => loop g body ds ρ2 M2
    | .bk ρ2 M2 => some (.nx ρ2 M2)
    | .rt r M2 => some (.rt r M2)
def sFor (it : SI) (g : SG) (body : SS) : SS := fun ρ M => (it ρ M).bind fun x => loop g body x.1 ρ x.2
def whl (c : SB) (body : SS) : Nat → SS
  | 0 => fun _ _ => none
  | n + 1 => fun ρ M => (c ρ M).bind fun x => if x.1 = true then (body ρ x.2).bind fun k => match k with
      | .nx ρ2 M2 => whl c body n ρ2 M2
      | .ct ρ2 M2 => whl c body n ρ2 M2
      | .bk ρ2 M2 => some (.nx ρ2 M2)
      | .rt r M2 => some (.rt r M2)
    else some (.nx ρ x.2)

variable {ta : TE} {a : SE} {t u : TS} {s s' : SS}
theorem et_next : EvT K tNext sNext := by
  intro ρ M c h F π G H σ R S D q
  cases h
  exact q π G H σ Gr.refl R S
theorem et_brk : EvT K tBreak sBrk := by
  intro ρ M c h F π G H σ R S D q
  cases h
  exact q π G H σ Gr.refl R S
theorem et_cnt : EvT K tCont sCnt := by
  intro ρ M c h F π G H σ R S D q
  cases h
  exact q π G H σ Gr.refl R S
theorem et_seq (h1 : EvT K t s) (h2 : EvT K u s') : EvT K (tSeq t u) (sSeq s s') := by
  intro ρ M c h F π G H σ R S D q
  unfold sSeq at h
  obtain ⟨k, e, h⟩ := Option.bind_eq_some_iff.mp h
  refine h1 ρ M k e F π G H σ R S _ ?_
  cases k with
  | nx ρ' M' => exact fun π' G' H' σ' g R' S' => h2 ρ' M' c h F π' G' H' σ' R' S' D (q.gr g)
  | rt r M' => cases h; exact q
  | bk ρ' M' => cases h; exact q
  | ct ρ' M' => cases h; exact q
theorem et_asg {g : TG} {sg : SG} (he : EvS K ta a) (hg : EvG K g sg) : EvT K (tAsg ta g) (sAsg a sg) := by
  intro ρ M c h F π G H σ R S D q
  unfold sAsg at h
  obtain ⟨⟨x, M1⟩, h1, h⟩ := Option.bind_eq_some_iff.mp h
  obtain ⟨⟨ρ', M2⟩, h2, h⟩ := Option.bind_eq_some_iff.mp h
  cases h
  refine he ρ M x M1 h1 F π G H σ R S _ fun π1 G1 H1 v1 g1 R1 s1 => ?_
  exact hg x ρ M1 ρ' M2 h2 F π1 G1 H1 v1 σ R1 (S.gr g1) s1 _ fun π2 G2 H2 σ2 g2 R2 S2 => q π2 G2 H2 σ2 (g1.trans g2) R2 S2
theorem et_expr (he : EvS K ta a) : EvT K (tDrop ta) (sExpr a) := by
  intro ρ M c h F π G H σ R S D q
  unfold sExpr at h
  obtain ⟨⟨x, M1⟩, h1, h⟩ := Option.bind_eq_some_iff.mp h
  cases h
  exact he ρ M x M1 h1 F π G H σ R S _ fun π1 G1 H1 v1 g1 R1 s1 => q π1 G1 H1 σ g1 R1 (S.gr g1)
theorem et_ret (he : EvS K ta a) : EvT K (tRet ta) (sRet a) := by
  intro ρ M c h F π G H σ R S D q
  unfold sRet at h
  obtain ⟨⟨x, M1⟩, h1, h⟩ := Option.bind_eq_some_iff.mp h
  cases h
  exact he ρ M x M1 h1 F π G H σ R S _ fun π1 G1 H1 v1 g1 R1 s1 => q π1 G1 H1 v1 g1 R1 s1
theorem et_retN : EvT K tRetN sRetN := by
  intro ρ M c h F π G H σ R S D q
  cases h
  exact q π G H _ Gr.refl R (.dat .non)
theorem et_if {tc : TT} {b : SB} (hc : EvB K tc b) (h1 : EvT K t s) (h2 : EvT K u s') : EvT K (tIfS tc t u) (sIf b s s') := by
  intro ρ M c h F π G H σ R S D q
  unfold sIf at h
  obtain ⟨⟨v, M1⟩, e, h⟩ := Option.bind_eq_some_iff.mp h
  refine hc ρ M v M1 e F π G H σ R S _ fun π1 G1 H1 g1 R1 => ?_
  cases v with
  | true =>
    rw [if_pos rfl]
    exact h1 ρ M1 c h F π1 G1 H1 σ R1 (S.gr g1) D (q.gr g1)
  | false =>
    rw [if_neg Bool.false_ne_true]
    exact h2 ρ M1 c h F π1 G1 H1 σ R1 (S.gr g1) D (q.gr g1)
theorem et_for {wi : TI} {g : TG} {it : SI} {sg : SG} (hi : EvI K wi it) (hg : EvG K g sg) (hb : EvT K t s) : EvT K (tFor wi g t) (sFor it sg s) := by
  intro ρ M c h F π G H σ R S D q
  unfold sFor at h
  obtain ⟨⟨ds, M1⟩, e, h⟩ := Option.bind_eq_some_iff.mp h
  refine hi ρ M ds M1 e F π G H σ R S _ fun π1 G1 H1 J g1 R1 ok => ?_
  have S1 := S.gr g1
  have q1 := EndOk.gr g1 q
  clear q S g1 e
  let W : Nat → L2.St → Hp → Prop := fun i σ H => ∃ ρ M π' G', i ≤ ds.length ∧ Gr π1 π' G1 G' ∧ Rel K F π' G' H M ∧ Slots K π' G' ρ σ ∧ loop sg s (ds.drop i) ρ M = some c
  refine ⟨fun i m σ H => m = ds.length - i ∧ W i σ H, ⟨_, rfl, ρ, M1, π1, G1, Nat.zero_le _, Gr.refl, R1, S1, h⟩, ?_⟩
  rintro i m σ' H' ⟨rfl, ρ', M', π', G', hle, g', R', S', hl⟩
  by_cases hlt : i < ds.length
  · refine .inr ⟨ok.go i H' (fun b o x => R'.ex b o (g'.s b o x)) hlt, W (i + 1), fun σ'' H'' w => ⟨ds.length - (i + 1), by omega, rfl, w⟩, fun x H'' y => ?_⟩
    obtain ⟨d, G3, e3, al, hd⟩ := ok.yld i H' x H'' G' g'.s R'.ex y hlt
    have ed : ds.drop i = d :: ds.drop (i + 1) := by
      rw [List.drop_eq_getElem_cons hlt]
      rw [List.getElem?_eq_getElem hlt] at e3
      cases e3; rfl
    rw [ed] at hl
    unfold loop at hl
    obtain ⟨⟨ρ2, M2⟩, e2, hl⟩ := Option.bind_eq_some_iff.mp hl
    obtain ⟨k, ek, hl⟩ := Option.bind_eq_some_iff.mp hl
    have ga := Gr.of (π := π') (R'.alSame al)
    refine hg (.dat d) ρ' M' ρ2 M2 e2 F π' G3 H'' x σ' (R'.al al) (S'.gr ga) (.dat hd) _ fun π4 G4 H4 σ4 g4 R4 S4 => ?_
    have gg := (g'.trans ga).trans g4
    refine hb ρ2 M2 k ek F π4 G4 H4 σ4 R4 S4 _ ?_
    cases k with
    | nx ρ5 M5 => exact fun π5 G5 H5 σ5 g5 R5 S5 => ⟨ρ5, M5, π5, G5, hlt, gg.trans g5, R5, S5, hl⟩
    | ct ρ5 M5 => exact fun π5 G5 H5 σ5 g5 R5 S5 => ⟨ρ5, M5, π5, G5, hlt, gg.trans g5, R5, S5, hl⟩
    | bk ρ5 M5 =>
      cases hl
      exact fun π5 G5 H5 σ5 g5 R5 S5 => q1 π5 G5 H5 σ5 (gg.trans g5) R5 S5
    | rt r M5 =>
      cases hl
      exact fun π5 G5 H5 σ5 g5 R5 S5 => q1 π5 G5 H5 σ5 (gg.trans g5) R5 S5
  · have e : ds.drop i = [] := List.drop_of_length_le (by omega)
    rw [e] at hl
    cases hl
    exact .inl ⟨ok.stop i H' (fun b o x => R'.ex b o (g'.s b o x)) (by omega), q1 π' G' H' σ' g' R' S'⟩
theorem et_while {tc : TT} {b : SB} {n : Nat} (hc : EvB K tc b) (hb : EvT K t s) : EvT K (tWhile tc t) (whl b s n) := by
  intro ρ M c h F π G H σ R S D q
  let W : Nat → L2.St → Hp → Prop := fun m σ H => ∃ ρ M π' G', Gr π π' G G' ∧ Rel K F π' G' H M ∧ Slots K π' G' ρ σ ∧ whl b s m ρ M = some c
  refine ⟨W, ⟨n, ρ, M, π, G, Gr.refl, R, S, h⟩, ?_⟩
  rintro m σ' H' ⟨ρ', M', π', G', g', R', S', hl⟩
  cases m with
  | zero => cases hl
  | succ m =>
    unfold whl at hl
    obtain ⟨⟨v, M1⟩, e, hl⟩ := Option.bind_eq_some_iff.mp hl
    refine hc ρ' M' v M1 e F π' G' H' σ' R' S' _ fun π1 G1 H1 g1 R1 => ?_
    cases v with
    | true =>
      rw [if_pos rfl]
      dsimp only at hl
      rw [if_pos rfl] at hl
      obtain ⟨k, ek, hl⟩ := Option.bind_eq_some_iff.mp hl
      refine ⟨W m, fun σ'' H'' w => ⟨m, Nat.lt_succ_self m, w⟩, ?_⟩
      have gg := g'.trans g1
      refine hb ρ' M1 k ek F π1 G1 H1 σ' R1 (S'.gr g1) _ ?_
      cases k with
      | nx ρ5 M5 => exact fun π5 G5 H5 σ5 g5 R5 S5 => ⟨ρ5, M5, π5, G5, gg.trans g5, R5, S5, hl⟩
      | ct ρ5 M5 => exact fun π5 G5 H5 σ5 g5 R5 S5 => ⟨ρ5, M5, π5, G5, gg.trans g5, R5, S5, hl⟩
      | bk ρ5 M5 =>
        cases hl
        exact fun π5 G5 H5 σ5 g5 R5 S5 => q π5 G5 H5 σ5 (gg.trans g5) R5 S5
      | rt r M5 =>
        cases hl
        exact fun π5 G5 H5 σ5 g5 R5 S5 => q π5 G5 H5 σ5 (gg.trans g5) R5 S5
    | false =>
      rw [if_neg Bool.false_ne_true]
      cases hl
      exact q π1 G1 H1 σ' (g'.trans g1) R1 (S'.gr g1)

/-! ### a list comprehension -/
def lcL (g : SG) (tt : SB) (el : SE) (ρ : Rho) : List PyData → Mem → Option (List PyData × Mem)
  | [], M => some ([], M)
  | d :: ds, M => (g (.dat d) ρ M).bind fun y => (tt y.1 y.2).bind fun b => if b.1 = true then (el y.1 b.2).bind fun r => match r.1 with
      | .dat x => (lcL g tt el ρ ds r.2).bind fun z => some (x :: z.1, z.2)
      | _ => none
    else lcL g tt el ρ ds b.2
def eLc (it : SI) (g : SG) (tt : SB) (el : SE) (vs : List Nat) : SE := fun ρ M => (it ρ M).bind fun x => if x.1.length ≤ 100000 then (lcL g tt el (wipeR ρ vs) x.1 x.2).bind fun z => some (.dat (.list z.1), z.2) else none
def bYes : SB := fun _ M => some (true, M)
theorem eb_yes : EvB K tYes bYes := by
  intro ρ M z M' h F π G H σ R S Q q
  cases h
  exact q π G H Gr.refl R
/-- a target that touches no other slot -/
def GW (g : TG) (vs : List Nat) : Prop := ∀ x σ H Q, g x σ H Q → g x σ H fun σ2 H2 => wipe σ2 vs = wipe σ vs ∧ Q σ2 H2
theorem gw_name {i : Nat} {vs : List Nat} (h : i ∈ vs) : GW (gName i) vs := fun x σ H Q q => ⟨wipe_set h, q⟩
theorem gw_names : ∀ {is vs : List Nat}, (∀ i ∈ is, i ∈ vs) → ∀ xs σ H Q, gNames is xs σ H Q → gNames is xs σ H fun σ2 H2 => wipe σ2 vs = wipe σ vs ∧ Q σ2 H2
  | [], vs, _, xs, σ, H, Q, ⟨e, q⟩ => ⟨e, rfl, q⟩
  | i :: is, vs, h, xs, σ, H, Q, ⟨v, r, e, q⟩ => by
    refine ⟨v, r, e, ?_⟩
    have := gw_names (fun j hj => h j (List.mem_cons_of_mem _ hj)) r (σ.set i (some v)) H Q q
    rw [wipe_set (h i List.mem_cons_self)] at this
    exact this
theorem gw_tup {is vs : List Nat} {n : Nat} (h : ∀ i ∈ is, i ∈ vs) : GW (gTup K n (gNames is)) vs := fun x σ H Q q => by
  obtain ⟨a, xs, e, hs, hl, q⟩ := q
  exact ⟨a, xs, e, hs, hl, gw_names h xs σ H Q q⟩
theorem lc_core {wi : TI} {g : TG} {tt : TT} {it : SI} {sg : SG} {b : SB} {vs : List Nat} (hi : EvI K wi it) (hg : EvG K g sg) (hw : GW g vs) (ht : EvB K tt b) (he : EvS K ta a)
    {ρ : Rho} {M M1 M2 : Mem} {ds out : List PyData} (e : it ρ M = some (ds, M1)) (hz : ds.length ≤ 100000) (e2 : lcL sg b a (wipeR ρ vs) ds M1 = some (out, M2)) {F : Hp} {π : List Addr} {G H : Hp} {σ : L2.St} (R : Rel K F π G H M) (S : Slots K π G ρ σ) {Q : VK}
    (q : ∀ π' G' H' D vs', Gr π π' G G' → Rel K (upd F D (.lst vs')) π' G' H' M2 → F D = none → DqAll K G' vs' out → Q (.ref D) H') : tLc wi g tt ta vs σ H Q := by
  · skip
    refine hi ρ M ds M1 e F π G H σ R S _ fun π1 G1 H1 J g1 R1 ok => ?_
    intro D hD
    have S1 := (S.gr g1).wiped vs
    have hF := R1.frNone hD
    let W : Nat → Hp → Prop := fun i H => ∃ M π' G' acc vs' rest, i ≤ ds.length ∧ vs'.length ≤ i ∧ Gr π1 π' G1 G' ∧ Rel K (upd F D (.lst vs')) π' G' H M ∧ DqAll K G' vs' acc ∧ lcL sg b a (wipeR ρ vs) (ds.drop i) M = some (rest, M2) ∧ out = acc ++ rest
    refine ⟨fun i m H => m = ds.length - i ∧ W i H, ⟨_, rfl, M1, π1, G1, [], [], out, Nat.zero_le _, Nat.le_refl _, Gr.refl, R1.frame hD, .nil, e2, rfl⟩, ?_⟩
    rintro i m H' ⟨rfl, M3, π', G', acc, vs', rest, hle, hvl, g', R', hacc, hl, ho⟩
    by_cases hlt : i < ds.length
    · refine .inr ⟨ok.go i H' (fun b o x => R'.ex b o (g'.s b o x)) hlt, W (i + 1), fun H'' w => ⟨ds.length - (i + 1), by omega, rfl, w⟩, fun x H'' y => ?_⟩
      obtain ⟨d, G3, e3, al, hd⟩ := ok.yld i H' x H'' G' g'.s R'.ex y hlt
      have ed : ds.drop i = d :: ds.drop (i + 1) := by
        rw [List.drop_eq_getElem_cons hlt]
        rw [List.getElem?_eq_getElem hlt] at e3
        cases e3; rfl
      rw [ed] at hl
      unfold lcL at hl
      obtain ⟨⟨ρ2, M4⟩, e4, hl⟩ := Option.bind_eq_some_iff.mp hl
      obtain ⟨⟨bv, M5⟩, e5, hl⟩ := Option.bind_eq_some_iff.mp hl
      have ga := Gr.of (π := π') (R'.alSame al)
      have hwi : wipe (wipe σ vs) vs = wipe σ vs := wipe_wipe σ vs vs (fun v hv => hv)
      have key : ∀ Q' : L2.St → Hp → Prop, (∀ π4 G4 H4 σ4, Gr π' π4 G3 G4 → Rel K (upd F D (.lst vs')) π4 G4 H4 M4 → Slots K π4 G4 ρ2 σ4 → Q' σ4 H4) → g x (wipe σ vs) H'' fun σ2 H2 => wipe σ2 vs = wipe σ vs ∧ Q' σ2 H2 := by
        intro Q' hQ
        have := hw x (wipe σ vs) H'' Q' (hg (.dat d) (wipeR ρ vs) M3 ρ2 M4 e4 (upd F D (.lst vs')) π' G3 H'' x (wipe σ vs) (R'.al al) (S1.gr (g'.trans ga)) (.dat hd) Q' hQ)
        rw [hwi] at this
        exact this
      refine key _ fun π4 G4 H4 σ4 g4 R4 S4 => ?_
      refine ht ρ2 M4 bv M5 e5 _ π4 G4 H4 σ4 R4 S4 _ fun π5 G5 H5 g5 R5 => ?_
      have gg := ((g'.trans ga).trans g4).trans g5
      have gh := (ga.trans g4).trans g5
      cases bv with
      | true =>
        rw [if_pos rfl]
        dsimp only at hl
        rw [if_pos rfl] at hl
        obtain ⟨⟨r, M6⟩, e6, hl⟩ := Option.bind_eq_some_iff.mp hl
        refine he ρ2 M5 r M6 e6 _ π5 G5 H5 σ4 R5 (S4.gr g5) _ fun π6 G6 H6 v6 g6 R6 s6 => ?_
        cases s6 with
        | cel _ => cases hl
        | @dat x' v6 hd6 =>
          dsimp only at hl
          obtain ⟨⟨rest', M7⟩, e7, hl⟩ := Option.bind_eq_some_iff.mp hl
          cases hl
          refine ⟨vs', (R6.fr D _ upd_same).1, szl (by omega), ?_⟩
          refine ⟨M6, π6, G6, acc ++ [x'], vs' ++ [v6], rest', hlt, by rw [List.length_append]; simp; omega, gg.trans g6, ?_, (hacc.mono (gh.s.trans g6.s)).append (.cons hd6 .nil), e7, by rw [ho]; simp⟩
          have := R6.framed (o' := .lst (vs' ++ [v6])) upd_same
          rw [upd_upd] at this
          exact this
      | false =>
        rw [if_neg Bool.false_ne_true]
        dsimp only at hl
        rw [if_neg Bool.false_ne_true] at hl
        exact ⟨M5, π5, G5, acc, vs', rest, hlt, by omega, gg, R5, hacc.mono gh.s, hl, ho⟩
    · have e : ds.drop i = [] := List.drop_of_length_le (by omega)
      rw [e] at hl
      cases hl
      rw [List.append_nil] at ho
      subst ho
      exact .inl ⟨ok.stop i H' (fun b o x => R'.ex b o (g'.s b o x)) (by omega), q π' G' H' D vs' (g1.trans g') R' hF hacc⟩
theorem ev_lc {wi : TI} {g : TG} {tt : TT} {it : SI} {sg : SG} {b : SB} {vs : List Nat} (hi : EvI K wi it) (hg : EvG K g sg) (hw : GW g vs) (ht : EvB K tt b) (he : EvS K ta a) : EvS K (tLc wi g tt ta vs) (eLc it sg b a vs) := by
  intro ρ M z M' h F π G H σ R S Q q
  unfold eLc at h
  obtain ⟨⟨ds, M1⟩, e, h⟩ := Option.bind_eq_some_iff.mp h
  split at h
  · rename_i hz
    dsimp only at hz
    obtain ⟨⟨out, M2⟩, e2, h⟩ := Option.bind_eq_some_iff.mp h
    cases h
    refine lc_core hi hg hw ht he e hz e2 R S fun π' G' H' D vs' g' R' hF hacc => ?_
    obtain ⟨R6, sg6⟩ := R'.unframe hF
    exact q π' _ H' _ (g'.trans (.of sg6)) R6 (.dat (.lst (SqL.of upd_same) (hacc.mono sg6)))
  · cases h
/-- a list comprehension whose list may change -/
def eLcN (it : SI) (g : SG) (tt : SB) (el : SE) (vs : List Nat) : SE := fun ρ M => (it ρ M).bind fun x => if x.1.length ≤ 100000 then (lcL g tt el (wipeR ρ vs) x.1 x.2).bind fun z => some (.cel z.2.length, z.2 ++ [some (z.1.map SV.dat)]) else none
theorem Rel.adopt {F : Hp} {π : List Addr} {G H : Hp} {M : Mem} {p : Addr} {xs : List SV} {vs : List V} (r : Rel K (upd F p (.lst vs)) π G H M) (hF : F p = none) (s : Svs K π G xs vs) : Rel K F (π ++ [p]) G H (M ++ [some xs]) := by
  obtain ⟨hH, hg⟩ := r.fr p _ upd_same
  have old : ∀ (i : Nat) (ys : List SV), (M ++ [some xs])[i]? = some (some ys) → (i < M.length ∧ M[i]? = some (some ys)) ∨ (i = M.length ∧ ys = xs) := by
    intro i ys e
    by_cases hi : i < M.length
    · rw [List.getElem?_append_left hi] at e; exact .inl ⟨hi, e⟩
    · rw [List.getElem?_append_right (by omega)] at e
      have hz : i - M.length = 0 := by
        by_cases hz : i - M.length = 0
        · exact hz
        · rw [List.getElem?_eq_none (by simp; omega)] at e; cases e
      rw [hz] at e
      simp at e
      exact .inr ⟨by omega, e.symm⟩
  have at1 : (π ++ [p])[M.length]? = some p := by
    rw [List.getElem?_append_right (by rw [r.len]; exact Nat.le_refl _), r.len, Nat.sub_self]; rfl
  have ne : ∀ (i : Nat) (ys : List SV) (b : Addr), M[i]? = some (some ys) → (π ++ [p])[i]? = some b → b ≠ p := by
    intro i ys b e q
    obtain ⟨b', _, h1, h2, _⟩ := r.mem i ys e
    have : (π ++ [p])[i]? = some b' := ix_app h1
    rw [this] at q; cases q
    intro z
    rw [z, upd_same] at h2; cases h2
  refine ⟨r.ex, fun b x e => ?_, by simp [r.len], fun i ys e => ?_, fun i j ys zs a e1 e2 e3 e4 => ?_, fun i ys e j hj => ?_⟩
  · have hb : b ≠ p := fun z => by rw [z, hF] at e; cases e
    exact r.fr b x (by rw [upd_ne hb]; exact e)
  · rcases old i ys e with ⟨hi, e⟩ | ⟨hi, e⟩
    · obtain ⟨a, vs', h1, h2, h3, h4, h5⟩ := r.mem i ys e
      have hb : a ≠ p := ne i ys a e (ix_app h1)
      exact ⟨a, vs', ix_app h1, by rw [upd_ne hb] at h2; exact h2, h3, h4, h5.mono (Same.refl G)⟩
    · subst e; subst hi
      exact ⟨p, vs, at1, hF, hg, hH, s.mono (Same.refl G)⟩
  · rcases old i ys e1 with ⟨hi, e1⟩ | ⟨hi, e1⟩ <;> rcases old j zs e2 with ⟨hj, e2⟩ | ⟨hj, e2⟩
    · rw [List.getElem?_append_left (by rw [r.len]; exact hi)] at e3
      rw [List.getElem?_append_left (by rw [r.len]; exact hj)] at e4
      exact r.inj i j ys zs a e1 e2 e3 e4
    · subst hj
      rw [at1] at e4; cases e4
      exact absurd rfl (ne i ys _ e1 e3)
    · subst hi
      rw [at1] at e3; cases e3
      exact absurd rfl (ne j zs _ e2 e4)
    · omega
  · rcases old i ys e with ⟨hi, e⟩ | ⟨hi, e⟩
    · exact r.wf i ys e j hj
    · subst e; subst hi
      have := s.refs hj
      rw [r.len] at this
      exact this
theorem ev_lcN {wi : TI} {g : TG} {tt : TT} {it : SI} {sg : SG} {b : SB} {vs : List Nat} (hi : EvI K wi it) (hg : EvG K g sg) (hw : GW g vs) (ht : EvB K tt b) (he : EvS K ta a) : EvS K (tLc wi g tt ta vs) (eLcN it sg b a vs) := by
  intro ρ M z M' h F π G H σ R S Q q
  unfold eLcN at h
  obtain ⟨⟨ds, M1⟩, e, h⟩ := Option.bind_eq_some_iff.mp h
  split at h
  · rename_i hz
    dsimp only at hz
    obtain ⟨⟨out, M2⟩, e2, h⟩ := Option.bind_eq_some_iff.mp h
    cases h
    refine lc_core hi hg hw ht he e hz e2 R S fun π' G' H' D vs' g' R' hF hacc => ?_
    refine q (π' ++ [D]) G' H' _ (g'.trans ⟨Same.refl G', [D], rfl⟩) (R'.adopt hF (Svs.ofD hacc)) (.cel ?_)
    show (π' ++ [D])[M2.length]? = some D
    rw [List.getElem?_append_right (by rw [R'.len]; exact Nat.le_refl _), R'.len, Nat.sub_self]; rfl
  · cases h
/-- behind a statement a list is held still: the slot i holds data from there on -/
def sFrz (i : Nat) (s : SS) : SS := fun ρ M => (s ρ M).bind fun c => match c with
  | .nx ρ' M' => match ρ'[i]? with
    | some (some (.cel j)) => match M'[j]? with
      | some (some xs) => (dats xs).bind fun ds => some (.nx (ρ'.set i (some (.dat (.list ds)))) (M'.set j none))
      | _ => none
    | _ => none
  | c => some c
theorem et_frz {i : Nat} {s : SS} {t : TS} (hs : EvT K t s) : EvT K t (sFrz i s) := by
  intro ρ M c h F π G H σ R S D q
  unfold sFrz at h
  obtain ⟨k, e, h⟩ := Option.bind_eq_some_iff.mp h
  refine hs ρ M k e F π G H σ R S D ?_
  cases k with
  | nx ρ' M' =>
    dsimp only at h
    intro π' G' H' σ' g R' S'
    split at h
    · rename_i j hj
      split at h
      · rename_i xs hx
        obtain ⟨ds, hd, h⟩ := Option.bind_eq_some_iff.mp h
        cases h
        obtain ⟨a, vs, p1, p2, p3, p4, p5⟩ := R'.mem j xs hx
        obtain ⟨y, hy, sy⟩ := S'.get hj
        cases sy with
        | cel ea =>
          rw [p1] at ea
          cases ea
          obtain ⟨R2, sg⟩ := R'.freeze hx p1 p4
          have S2 := (S'.gr (Gr.of sg)).set (.dat (.lst (SqL.of upd_same) ((dats_all hd p5).mono sg))) i
          have es : σ'.set i (some (.ref a)) = σ' := by
            apply List.ext_getElem?
            intro n
            by_cases hn : i = n
            · subst hn
              obtain ⟨hlt, _⟩ := List.getElem?_eq_some_iff.mp hy
              rw [List.getElem?_set_self hlt, hy]
            · rw [List.getElem?_set_ne hn]
          rw [es] at S2
          exact q π' _ H' σ' (g.trans (.of sg)) R2 S2
      · cases h
    · cases h
  | rt r M' => cases h; exact q
  | bk ρ' M' => cases h; exact q
  | ct ρ' M' => cases h; exact q
/-- a, b = x, y -/
def sPar (i j : Nat) (a : SA) : SS := fun ρ M => (a ρ M).bind fun x => match x.1 with
  | [u, v] => some (.nx ((ρ.set i (some u)).set j (some v)) x.2)
  | _ => none
theorem et_par {i j : Nat} {t : TA} {as : SA} (hs : EvA K t as) : EvT K (tPar i j t) (sPar i j as) := by
  intro ρ M c h F π G H σ R S D q
  unfold sPar at h
  obtain ⟨⟨x, M1⟩, h1, h⟩ := Option.bind_eq_some_iff.mp h
  refine hs ρ M x M1 h1 F π G H σ R S _ fun π1 G1 H1 v1 g1 R1 s1 => ?_
  dsimp only at h
  split at h
  · cases h
    cases s1 with
    | cons s1 s2 =>
      cases s2 with
      | cons s2 s3 =>
        cases s3
        exact ⟨_, _, rfl, q π1 G1 H1 _ g1 R1 (((S.gr g1).set s1 i).set s2 j)⟩
  · cases h

/-! ### defs -/
def fin (r : SV) (M M' : Mem) : Option (SV × Mem) := match r with
  | .dat d => some (.dat d, M'.take M.length)
  | r => some (r, M')
def mkF (n : Nat) (body : SS) : SF := fun args M => (body (args.map some ++ List.replicate (n - args.length) none) M).bind fun c => match c with
  | .rt r M' => fin r M M'
  | .nx _ M' => fin (.dat .none) M M'
  | _ => none
/-- the promise of a def -/
def spF (K : PySem.W.Frag) (n : Nat) (f : SF) : Sp := fun vs H Q _ => ∃ args M r M' F π G, f args M = some (r, M') ∧ args.length = n ∧ Rel K F π G H M ∧ Svs K π G args vs ∧
  ∀ π' G' H' v, Gr π π' G G' → Rel K F π' G' H' M' → Sv K π' G' r v → Q v H'
theorem fin_ok {F : Hp} {π π' : List Addr} {G G' H' : Hp} {M M' M'' : Mem} {r r' : SV} {v : V} (h : fin r M M' = some (r', M'')) (hl : π.length = M.length) (g : Gr π π' G G') (R : Rel K F π' G' H' M') (s : Sv K π' G' r v) :
    ∃ π'', Gr π π'' G G' ∧ Rel K F π'' G' H' M'' ∧ Sv K π'' G' r' v := by
  unfold fin at h
  cases r with
  | dat d =>
    cases h
    obtain ⟨gs, more, rfl⟩ := g
    rw [← hl]
    refine ⟨π, Gr.of gs, R.cut, ?_⟩
    cases s with
    | dat hd => exact .dat hd
  | cel i =>
    cases h
    exact ⟨π', g, R, s⟩
theorem slots_start {π : List Addr} {G : Hp} {N : List Str} : ∀ {args : List SV} {vs : List V}, Svs K π G args vs → Slots K π G (args.map some ++ List.replicate (N.length - args.length) none) (start N vs) := by
  intro args vs h
  unfold L2.start
  rw [h.length]
  generalize N.length - vs.length = k
  induction h with
  | nil =>
    show Slots K π G (List.replicate k none) (List.replicate k none)
    induction k with
    | zero => exact .nil
    | succ k ih => rw [List.replicate_succ, List.replicate_succ]; exact .skip ih
  | cons hs _ ih => exact .hold hs ih
/-- a def keeps its promise, by its body -/
theorem fn_ok {P : Program} {w : World} {mg : Str → Option Value} {base : Heap} {x qual : Str} {st : Stmt} {f : Addr} {fd : FuncData} {N ps : List Str} {k : Nat} (Fu : Fun K x qual st f fd) (Sc : FnScope N ps (defScope st)) {body : SS} {t : TS}
    (hb : ∀ (cdv : Value) (A : Around) (outer : List PySem.Env) (s : Shared) (H : Hp) (E : XK), Room k (A.deeper (envOfC qual (defScope st) s.heap.objs.size f cdv)) →
      PSs (cxOf CX0 P w K mg base N qual (defScope st) f cdv A outer s H E).nox (defBody st) t) (he : EvT K t body) : FnOk P w K mg base CX0 (k + 1) f fd ps (spF K ps.length (mkF N.length body)) := by
  refine Fu.ok Sc (fun vs H Q E h => ?_) (fun cdv A outer s H vs Q E hr h => ?_)
  · obtain ⟨args, M, r, M', F, π, G, _, hl, _, hs, _⟩ := h
    rw [← hs.length, hl]
  · obtain ⟨args, M, r, M', F, π, G, hf, hl, R, hs, q⟩ := h
    refine ⟨t, hb cdv A outer s H E hr, ?_⟩
    unfold mkF at hf
    obtain ⟨c, hc, hf⟩ := Option.bind_eq_some_iff.mp hf
    refine he _ M c hc F π G H (start N vs) R (slots_start hs) _ ?_
    cases c with
    | nx ρ M1 =>
      intro π' G' H' σ' g R' S'
      obtain ⟨π'', g2, R2, s2⟩ := fin_ok hf R.len g R' (.dat .non)
      exact q π'' G' H' _ g2 R2 s2
    | rt v M1 =>
      intro π' G' H' u g R' s'
      obtain ⟨π'', g2, R2, s2⟩ := fin_ok hf R.len g R' s'
      exact q π'' G' H' _ g2 R2 s2
    | bk _ _ => cases hf
    | ct _ _ => cases hf
theorem ev_call {f : SF} {n : Nat} {E : XK} {ts : TA} {as : SA} (hs : EvA K ts as) (hn : ∀ ρ M x, as ρ M = some x → x.1.length = n) : EvS K (tCall (spF K n f) [] E ts) (eCall f as) := by
  intro ρ M z M' h F π G H σ R S Q q
  unfold eCall at h
  obtain ⟨⟨x, M1⟩, h1, h⟩ := Option.bind_eq_some_iff.mp h
  refine hs ρ M x M1 h1 F π G H σ R S _ fun π1 G1 H1 v1 g1 R1 s1 => ?_
  rw [List.append_nil]
  exact ⟨x, M1, z, M', F, π1, G1, h, hn ρ M _ h1, R1, s1, fun π' G' H' v g R' s' => q π' G' H' v (g1.trans g) R' s'⟩
theorem na_nil : ∀ ρ M x, aNil ρ M = some x → x.1.length = 0 := fun ρ M x h => by cases h; rfl
theorem na_cons {a : SE} {as : SA} {n : Nat} (hn : ∀ ρ M x, as ρ M = some x → x.1.length = n) : ∀ ρ M x, aCons a as ρ M = some x → x.1.length = n + 1 := fun ρ M x h => by
  unfold aCons at h
  obtain ⟨⟨x, M1⟩, h1, h⟩ := Option.bind_eq_some_iff.mp h
  obtain ⟨⟨y, M2⟩, h2, h⟩ := Option.bind_eq_some_iff.mp h
  cases h
  simp [hn _ _ _ h2]

/-! ### what a loop walks -/
def iDat (a : SE) : SI := fun ρ M => (a ρ M).bind fun x => match x.1 with
  | .dat (.list ds) => some (ds, x.2)
  | .dat (.tuple ds) => some (ds, x.2)
  | _ => none
def iDatL (a : SE) : SI := fun ρ M => (a ρ M).bind fun x => match x.1 with
  | .dat (.list ds) => some (ds, x.2)
  | _ => none
def iDatT (a : SE) : SI := fun ρ M => (a ρ M).bind fun x => match x.1 with
  | .dat (.tuple ds) => some (ds, x.2)
  | _ => none
def rangeD (lo hi : Int) : List PyData := (List.range (hi - lo).toNat).map fun k => PyData.int (lo + (k : Nat))
def iR1 (a : SA) : SI := fun ρ M => (a ρ M).bind fun x => match x.1 with
  | [.dat (.int j)] => if -(2 ^ 62) ≤ j ∧ j < 2 ^ 62 then some (rangeD 0 j, x.2) else none
  | _ => none
def iR2 (a : SA) : SI := fun ρ M => (a ρ M).bind fun x => match x.1 with
  | [.dat (.int i), .dat (.int j)] => if (-(2 ^ 62) ≤ i ∧ i < 2 ^ 62) ∧ -(2 ^ 62) ≤ j ∧ j < 2 ^ 62 then some (rangeD i j, x.2) else none
  | _ => none
def zipD (xs ys : List PyData) : List PyData := (xs.zip ys).map fun p => PyData.tuple [p.1, p.2]
def seqD : PyData → Option (List PyData)
  | .list xs => some xs
  | .tuple xs => some xs
  | _ => none
def iZp (a : SA) : SI := fun ρ M => (a ρ M).bind fun x => match x.1 with
  | [.dat d, .dat e] => (seqD d).bind fun xs => (seqD e).bind fun ys => some (zipD xs ys, x.2)
  | _ => none
def iRv (a : SE) : SI := fun ρ M => (a ρ M).bind fun x => match x.1 with
  | .dat (.list ds) => some (ds.reverse, x.2)
  | .dat (.tuple ds) => some (ds.reverse, x.2)
  | _ => none
theorem itl_ok {G : Hp} {l : Addr} {xs : List V} {ds : List PyData} (hs : SqL K G l xs) (ha : DqAll K G xs ds) : ItOk K G (Itl K l) ds where
  go := fun i H e hi => by
    have hi' : i < xs.length := by rw [ha.length]; exact hi
    exact ⟨xs, xs[i], e.seq hs, List.getElem?_eq_getElem hi'⟩
  stop := fun i H e hi => ⟨xs, e.seq hs, by rw [ha.length]; exact hi⟩
  yld := fun i H x H' G2 e1 e2 y hi => by
    obtain ⟨rfl, h⟩ := y
    obtain ⟨d, h1, h2⟩ := ha.get (h xs ((e1.trans e2).seq hs))
    exact ⟨d, G2, h1, .same, h2.mono e1⟩
theorem itt_ok {G : Hp} {l : Addr} {xs : List V} {ds : List PyData} (hs : SqT K G l xs) (ha : DqAll K G xs ds) : ItOk K G (Itt K l) ds where
  go := fun i H e hi => by
    have hi' : i < xs.length := by rw [ha.length]; exact hi
    exact ⟨xs, xs[i], same_sqT e hs, List.getElem?_eq_getElem hi'⟩
  stop := fun i H e hi => ⟨xs, same_sqT e hs, by rw [ha.length]; exact hi⟩
  yld := fun i H x H' G2 e1 e2 y hi => by
    obtain ⟨rfl, h⟩ := y
    obtain ⟨d, h1, h2⟩ := ha.get (h xs (same_sqT (e1.trans e2) hs))
    exact ⟨d, G2, h1, .same, h2.mono e1⟩
theorem rangeD_len (lo hi : Int) : (rangeD lo hi).length = (hi - lo).toNat := by simp [rangeD]
theorem itr_ok {G : Hp} {lo hi : Int} : ItOk K G (Itr lo (hi - lo).toNat) (rangeD lo hi) where
  go := fun i H e h => by rw [rangeD_len] at h; exact h
  stop := fun i H e h => by rw [rangeD_len] at h; exact h
  yld := fun i H x H' G2 e1 e2 y h => by
    obtain ⟨rfl, rfl⟩ := y
    rw [rangeD_len] at h
    exact ⟨.int (lo + (i : Nat)), G2, by simp [rangeD, h], .same, .int _⟩
theorem zipD_get {xs ys : List PyData} {i : Nat} {x y : PyData} (h1 : xs[i]? = some x) (h2 : ys[i]? = some y) : (zipD xs ys)[i]? = some (.tuple [x, y]) := by
  unfold zipD
  rw [List.getElem?_map, List.getElem?_zip_eq_some (z := (x, y)) |>.mpr ⟨h1, h2⟩]; rfl
theorem zipD_len (xs ys : List PyData) : (zipD xs ys).length = min xs.length ys.length := by simp [zipD]
theorem itz_ok {G : Hp} {l m : Addr} {xs ys : List V} {ds es : List PyData} (hs : SqL K G l xs) (ha : DqAll K G xs ds) (hs' : SqL K G m ys) (ha' : DqAll K G ys es) : ItOk K G (Itz K l m) (zipD ds es) where
  go := fun i H e hi => by
    rw [zipD_len] at hi
    have h1 : i < xs.length := by rw [ha.length]; omega
    have h2 : i < ys.length := by rw [ha'.length]; omega
    exact ⟨xs, ys, xs[i], ys[i], e.seq hs, e.seq hs', List.getElem?_eq_getElem h1, List.getElem?_eq_getElem h2⟩
  stop := fun i H e hi => by
    rw [zipD_len] at hi
    refine ⟨xs, ys, e.seq hs, e.seq hs', ?_⟩
    rw [ha.length, ha'.length]; omega
  yld := fun i H x H' G2 e1 e2 y hi => by
    obtain ⟨T, x1, x2, rfl, nT, rfl, h1, h2⟩ := y
    obtain ⟨d, q1, q2⟩ := ha.get (h1 xs ((e1.trans e2).seq hs))
    obtain ⟨d', q3, q4⟩ := ha'.get (h2 ys ((e1.trans e2).seq hs'))
    have hn : Same G2 (upd G2 T (.tup [x1, x2])) := same_upd (none_of_same e2 nT)
    exact ⟨_, upd G2 T (.tup [x1, x2]), zipD_get q1 q3, .new nT, .tup (SqT.of upd_same) (.cons ((q2.mono e1).mono hn) (.cons ((q4.mono e1).mono hn) .nil))⟩
theorem itzt_ok {G : Hp} {l m : Addr} {xs ys : List V} {ds es : List PyData} (hs : SqT K G l xs) (ha : DqAll K G xs ds) (hs' : SqT K G m ys) (ha' : DqAll K G ys es) : ItOk K G (RZ.ItzT K l m) (zipD ds es) where
  go := fun i H e hi => by
    rw [zipD_len] at hi
    have h1 : i < xs.length := by rw [ha.length]; omega
    have h2 : i < ys.length := by rw [ha'.length]; omega
    exact ⟨xs, ys, xs[i], ys[i], same_sqT e hs, same_sqT e hs', List.getElem?_eq_getElem h1, List.getElem?_eq_getElem h2⟩
  stop := fun i H e hi => by
    rw [zipD_len] at hi
    refine ⟨xs, ys, same_sqT e hs, same_sqT e hs', ?_⟩
    rw [ha.length, ha'.length]; omega
  yld := fun i H x H' G2 e1 e2 y hi => by
    obtain ⟨T, x1, x2, rfl, nT, rfl, h1, h2⟩ := y
    obtain ⟨d, q1, q2⟩ := ha.get (h1 xs (same_sqT (e1.trans e2) hs))
    obtain ⟨d', q3, q4⟩ := ha'.get (h2 ys (same_sqT (e1.trans e2) hs'))
    have hn : Same G2 (upd G2 T (.tup [x1, x2])) := same_upd (none_of_same e2 nT)
    exact ⟨_, upd G2 T (.tup [x1, x2]), zipD_get q1 q3, .new nT, .tup (SqT.of upd_same) (.cons ((q2.mono e1).mono hn) (.cons ((q4.mono e1).mono hn) .nil))⟩
theorem rev_get {ds : List PyData} {i : Nat} {d : PyData} (hi : i < ds.length) (h : ds[ds.length - 1 - i]? = some d) : ds.reverse[i]? = some d := by
  rw [List.getElem?_reverse hi]; exact h
theorem itv_ok {G : Hp} {l : Addr} {xs : List V} {ds : List PyData} (hs : SqL K G l xs) (ha : DqAll K G xs ds) : ItOk K G (Itv K l xs.length) ds.reverse where
  go := fun i H e hi => by
    rw [List.length_reverse] at hi
    have hi' : i < xs.length := by rw [ha.length]; exact hi
    exact ⟨hi', xs, xs[xs.length - 1 - i], e.seq hs, List.getElem?_eq_getElem (by omega)⟩
  stop := fun i H e hi => by rw [List.length_reverse] at hi; show xs.length ≤ i; rw [ha.length]; exact hi
  yld := fun i H x H' G2 e1 e2 y hi => by
    rw [List.length_reverse] at hi
    obtain ⟨rfl, h⟩ := y
    obtain ⟨d, h1, h2⟩ := ha.get (h xs ((e1.trans e2).seq hs))
    rw [ha.length] at h1
    exact ⟨d, G2, rev_get hi h1, .same, h2.mono e1⟩
theorem itvt_ok {G : Hp} {l : Addr} {xs : List V} {ds : List PyData} (hs : SqT K G l xs) (ha : DqAll K G xs ds) : ItOk K G (RT.ItvT K l xs.length) ds.reverse where
  go := fun i H e hi => by
    rw [List.length_reverse] at hi
    have hi' : i < xs.length := by rw [ha.length]; exact hi
    exact ⟨hi', xs, xs[xs.length - 1 - i], same_sqT e hs, List.getElem?_eq_getElem (by omega)⟩
  stop := fun i H e hi => by rw [List.length_reverse] at hi; show xs.length ≤ i; rw [ha.length]; exact hi
  yld := fun i H x H' G2 e1 e2 y hi => by
    rw [List.length_reverse] at hi
    obtain ⟨rfl, h⟩ := y
    obtain ⟨d, h1, h2⟩ := ha.get (h xs (same_sqT (e1.trans e2) hs))
    rw [ha.length] at h1
    exact ⟨d, G2, rev_get hi h1, .same, h2.mono e1⟩
theorem ei_lst (ha : EvS K ta a) : EvI K (iList K ta) (iDatL a) := by
  intro ρ M z M' h F π G H σ R S Q q
  unfold iDatL at h
  obtain ⟨⟨x, M1⟩, h1, h⟩ := Option.bind_eq_some_iff.mp h
  refine ha ρ M x M1 h1 F π G H σ R S _ fun π1 G1 H1 v1 g1 R1 s1 => ?_
  cases s1 with
  | cel _ => cases h
  | dat hd =>
    cases hd with
    | @lst l xs ds hs ha =>
      cases h
      exact ⟨l, rfl, ⟨xs, R1.ex.seq hs⟩, q π1 G1 H1 _ g1 R1 (itl_ok hs ha)⟩
    | _ => cases h
theorem ei_tup (ha : EvS K ta a) : EvI K (iTup K ta) (iDatT a) := by
  intro ρ M z M' h F π G H σ R S Q q
  unfold iDatT at h
  obtain ⟨⟨x, M1⟩, h1, h⟩ := Option.bind_eq_some_iff.mp h
  refine ha ρ M x M1 h1 F π G H σ R S _ fun π1 G1 H1 v1 g1 R1 s1 => ?_
  cases s1 with
  | cel _ => cases h
  | dat hd =>
    cases hd with
    | @tup l xs ds hs ha =>
      cases h
      exact ⟨l, rfl, ⟨xs, same_sqT R1.ex hs⟩, q π1 G1 H1 _ g1 R1 (itt_ok hs ha)⟩
    | _ => cases h
/-- a list or a tuple -/
def iSq (K : PySem.W.Frag) (tl : TE) : TI := fun σ H R => tl σ H fun x H1 => ∃ a, x = .ref a ∧ (((∃ xs, SqL K H1 a xs) ∧ R (Itl K a) H1) ∨ ((∃ xs, SqT K H1 a xs) ∧ R (Itt K a) H1))
theorem pi_sq {X : Cx} {tg l : Expr} {tl : TE} (hl : PE X l tl) : PI X tg l (iSq X.K tl) := by
  refine ⟨fun pins s σ H R I h => ?_⟩
  refine thn (hl.run pins s σ H _ I h) fun v s1 ⟨x, H1, I1, r1, q1⟩ => ?_
  obtain ⟨a, e, q1⟩ := q1
  subst e
  cases r1
  rcases q1 with ⟨⟨xs, hq⟩, q⟩ | ⟨⟨xs, hq⟩, q⟩
  · obtain ⟨its, rv, p, hz⟩ := I1.list hq
    refine wpAny_pyIter_list p.isList ?_
    refine ⟨s1.heap.objs.size, [s1.heap.objs.size], _, _, H1, rfl, I1.kept (t' := s1.toks) fun b o e => Heap.get?_push_of_some _ e, turn_list a _, ⟨_, Heap.get?_push_size _ rfl, rfl, rfl⟩, fun b hb => ?_, q⟩
    have e : b = s1.heap.objs.size := by simpa using hb
    subst e
    exact I1.fpOk (Nat.le_refl _) (I1.hok.fresh (Nat.le_refl _))
  · obtain ⟨its, rv, p, hz⟩ := I1.tuple hq
    refine wpAny_pyIter_tuple (show s1.heap.IsTuple a its.toArray from p) ?_
    refine ⟨s1.heap.objs.size, [s1.heap.objs.size], _, _, H1, rfl, I1.kept (t' := s1.toks) fun b o e => Heap.get?_push_of_some _ e, turn_tuple a _, ⟨_, Heap.get?_push_size _ rfl, rfl, rfl⟩, fun b hb => ?_, q⟩
    have e : b = s1.heap.objs.size := by simpa using hb
    subst e
    exact I1.fpOk (Nat.le_refl _) (I1.hok.fresh (Nat.le_refl _))
theorem ei_sq (ha : EvS K ta a) : EvI K (iSq K ta) (iDat a) := by
  intro ρ M z M' h F π G H σ R S Q q
  unfold iDat at h
  obtain ⟨⟨x, M1⟩, h1, h⟩ := Option.bind_eq_some_iff.mp h
  refine ha ρ M x M1 h1 F π G H σ R S _ fun π1 G1 H1 v1 g1 R1 s1 => ?_
  cases s1 with
  | cel _ => cases h
  | dat hd =>
    cases hd with
    | @lst l xs ds hs ha =>
      cases h
      exact ⟨l, rfl, .inl ⟨⟨xs, R1.ex.seq hs⟩, q π1 G1 H1 _ g1 R1 (itl_ok hs ha)⟩⟩
    | @tup l xs ds hs ha =>
      cases h
      exact ⟨l, rfl, .inr ⟨⟨xs, same_sqT R1.ex hs⟩, q π1 G1 H1 _ g1 R1 (itt_ok hs ha)⟩⟩
    | _ => cases h
theorem ei_r1 {ts : TA} {as : SA} (hs : EvA K ts as) : EvI K (iRng1 ts) (iR1 as) := by
  intro ρ M z M' h F π G H σ R S Q q
  unfold iR1 at h
  obtain ⟨⟨x, M1⟩, h1, h⟩ := Option.bind_eq_some_iff.mp h
  refine hs ρ M x M1 h1 F π G H σ R S _ fun π1 G1 H1 v1 g1 R1 s1 => ?_
  dsimp only at h
  split at h
  · rename_i j
    split at h
    · rename_i hj
      cases h
      cases s1 with
      | cons s1 s2 =>
        cases s2
        cases s1 with
        | dat hd =>
          cases hd
          refine ⟨j, rfl, hj.1, hj.2, q π1 G1 H1 _ g1 R1 ?_⟩
          have := @itr_ok K G1 0 j
          rw [Int.sub_zero] at this
          exact this
    · cases h
  · cases h
theorem ei_r2 {ts : TA} {as : SA} (hs : EvA K ts as) : EvI K (iRng2 ts) (iR2 as) := by
  intro ρ M z M' h F π G H σ R S Q q
  unfold iR2 at h
  obtain ⟨⟨x, M1⟩, h1, h⟩ := Option.bind_eq_some_iff.mp h
  refine hs ρ M x M1 h1 F π G H σ R S _ fun π1 G1 H1 v1 g1 R1 s1 => ?_
  dsimp only at h
  split at h
  · rename_i i j
    split at h
    · rename_i hj
      cases h
      cases s1 with
      | cons s1 s2 =>
        cases s2 with
        | cons s2 s3 =>
          cases s3
          cases s1 with
          | dat hd =>
            cases hd
            cases s2 with
            | dat hd =>
              cases hd
              exact ⟨i, j, rfl, ⟨hj.1.1, hj.1.2, hj.2.1, hj.2.2⟩, q π1 G1 H1 _ g1 R1 itr_ok⟩
    · cases h
  · cases h
theorem ei_rv (ha : EvS K ta a) : EvI K (RT.iRevA K ta) (iRv a) := by
  intro ρ M z M' h F π G H σ R S Q q
  unfold iRv at h
  obtain ⟨⟨x, M1⟩, h1, h⟩ := Option.bind_eq_some_iff.mp h
  refine ha ρ M x M1 h1 F π G H σ R S _ fun π1 G1 H1 v1 g1 R1 s1 => ?_
  cases s1 with
  | cel _ => cases h
  | dat hd =>
    cases hd with
    | @lst l xs ds hs ha =>
      cases h
      exact ⟨l, xs, rfl, .inl ⟨R1.ex.seq hs, q π1 G1 H1 _ g1 R1 (itv_ok hs ha)⟩⟩
    | @tup l xs ds hs ha =>
      cases h
      exact ⟨l, xs, rfl, .inr ⟨same_sqT R1.ex hs, q π1 G1 H1 _ g1 R1 (itvt_ok hs ha)⟩⟩
    | _ => cases h
end
end Sm

namespace Sm
open PySem PySem.Spec PyProof.Rows L2

/-! ### defs that may be asked only where nothing is being written out (repr) -/
structure FnG (P : Program) (w : World) (K : PySem.W.Frag) (mg : Str → Option Value) (base : Heap) (k : Nat) (f : Addr) (fd : FuncData) (ps : List Str) (sp : Sp) : Prop where
  len : ∀ vs H Q E, sp vs H Q E → vs.length = ps.length
  run : ∀ (A : Around) (out : List PySem.Env) (s : Shared) (H : Hp) (args : Args) (us : List Value) (vs : List V) (Q : VK),
    Room k A → A.guards = some [] → Env0 P w K mg base A out s H → BindsTo s fd args (ps.zip us) → Vals vs us → sp vs H Q E0 →
    codeAny (model P w) A (.call (.ref f) args) (CR CX0 out P w H s Q E0) s
section
variable {P : Program} {w : World} {K : PySem.W.Frag} {mg : Str → Option Value} {base : Heap}
theorem FnG.up {j k : Nat} {f : Addr} {fd : FuncData} {ps : List Str} {sp : Sp} (F : FnG P w K mg base j f fd ps sp) (h : j ≤ k) : FnG P w K mg base k f fd ps sp :=
  ⟨F.len, fun A out s H args us vs Q hr => F.run A out s H args us vs Q (hr.mono h)⟩
/-- a def of the text, by its body -/
theorem fng_of {k : Nat} {f : Addr} {nm ql : Str} {pars : Arguments} {bd : List Stmt} {sc : Scope} {dV kV doc pm cd ct oc : Value} {an od : Option Addr} {osl : Array (Option Value)} {N ps : List Str} {sp : Sp}
    (lk : K.lookup f = some ⟨oc, od, .func (PySem.W.fnOf nm ql pars bd sc dV kV doc pm an cd ct), osl⟩)
    (hcd : PySem.W.codeIn K cd ql = true) (Sc : FnScope N ps sc) (len : ∀ vs H Q E, sp vs H Q E → vs.length = ps.length)
    (hb : ∀ (A : Around) (out : List PySem.Env) (s : Shared) (H : Hp) (vs : List V) (Q : VK),
      Room k (A.deeper (envOfC ql sc s.heap.objs.size f cd)) → A.guards = some [] → sp vs H Q E0 →
      ∃ t, PSs (cxOf CX0 P w K mg base N ql sc f cd A out s H E0).nox bd t ∧ t { nx := fun _ H' => Q .non H', rt := Q } (L2.start N vs) H) :
    FnG P w K mg base (k + 1) f (PySem.W.fnOf nm ql pars bd sc dV kV doc pm an cd ct) ps sp := by
  constructor
  · exact len
  intro A out s H args us vs Q room hgu env bnd rv want
  have inK : K.In s.heap := env.mod.kin.keeps (fun c oc hc => (env.bs c oc hc).1)
  have noLim : s.heap.NoLimit := env.mod.nolimit.keeps (fun c oc hc => (env.bs c oc hc).1)
  have kinds : ∀ y ∈ ps.zip us, sc.names.lookup y.1 = some .local ∨
      (sc.names.lookup y.1 = some .cell ∧ ((cellsFrom (s.heap.objs.size + 1) sc.names []).lookup y.1).isSome = true) := by
    rintro ⟨n, v⟩ hy
    cases Sc.par n (List.of_mem_zip hy).1 with
    | inl h => exact Or.inl h
    | inr h => exact Or.inr ⟨h, PySem.W.cellsFrom_some _ _ _ (Or.inl h)⟩
  refine codeAny_call_function room.depth (inK _ _ lk) rfl Sc.co Sc.gen rfl (PySem.W.codeRec_of inK hcd)
    (bnd _ _ _ _ ?_)
  refine wpAny_newFunctionEnv_cells Sc.kind kinds (fun ev hev st inn => ?_)
  subst hev
  refine ⟨noLim.keeps inn.toInCall.keep, codeAny_func ?_⟩
  obtain ⟨t, der, rd⟩ := hb A out s H vs Q (room.deeper _) hgu want
  have J := inv_start (CX := CX0) (mg := mg) (E := E0) Sc room.hd env (len vs H Q E0 want) rv inn
  refine wpAny_mono (der.nox.run [] st (L2.start N vs) H _ J rd) ?_ (fun _ _ z => z)
  intro fl s' hs
  cases fl with
  | brk => exact hs.elim fun _ ⟨_, _, z⟩ => False.elim z
  | cont => exact hs.elim fun _ ⟨_, _, z⟩ => False.elim z
  | next =>
    obtain ⟨σ', H', J', q⟩ := hs
    exact ⟨V.non, H', J'.os, J'.bare, J'.base, J'.hok, rfl, q⟩
  | ret u =>
    obtain ⟨v, σ', H', J', ru, q⟩ := hs
    exact ⟨v, H', J'.os, J'.bare, J'.base, J'.hok, ru, q⟩
theorem fng_fun {x ql : Str} {st : Stmt} {f : Addr} {fd : FuncData} {N ps : List Str} {k : Nat} {sp : Sp} (Fu : Fun K x ql st f fd) (Sc : FnScope N ps (defScope st)) (len : ∀ vs H Q E, sp vs H Q E → vs.length = ps.length)
    (hb : ∀ (cd : Value) (A : Around) (out : List PySem.Env) (s : Shared) (H : Hp) (vs : List V) (Q : VK),
      Room k (A.deeper (envOfC ql (defScope st) s.heap.objs.size f cd)) → A.guards = some [] → sp vs H Q E0 →
      ∃ t, PSs (cxOf CX0 P w K mg base N ql (defScope st) f cd A out s H E0).nox (defBody st) t ∧ t { nx := fun _ H' => Q .non H', rt := Q } (L2.start N vs) H) :
    FnG P w K mg base (k + 1) f fd ps sp := by
  obtain ⟨oc, od, kV, doc, pm, an, cd, ct, osl, e, lk, hcd⟩ := Fu.ex
  subst e
  exact fng_of lk hcd Sc len (hb cd)
/-- a def keeps its promise, by its body -/
theorem fn_okG {x ql : Str} {st : Stmt} {f : Addr} {fd : FuncData} {N ps : List Str} {k : Nat} {body : SS} {t : TS} (he : EvT K t body) (Fu : Fun K x ql st f fd) (Sc : FnScope N ps (defScope st))
    (hb : ∀ (cd : Value) (A : Around) (out : List PySem.Env) (s : Shared) (H : Hp),
      Room k (A.deeper (envOfC ql (defScope st) s.heap.objs.size f cd)) → A.guards = some [] →
      PSs (cxOf CX0 P w K mg base N ql (defScope st) f cd A out s H E0).nox (defBody st) t) :
    FnG P w K mg base (k + 1) f fd ps (spF K ps.length (mkF N.length body)) := by
  refine fng_fun Fu Sc (fun vs H Q E h => ?_) (fun cd A out s H vs Q hr hgu h => ?_)
  · obtain ⟨args, M, r, M', F, π, G, _, hl, _, hs, _⟩ := h
    rw [← hs.length, hl]
  · obtain ⟨args, M, r, M', F, π, G, hf, hl, R, hs, q⟩ := h
    refine ⟨t, hb cd A out s H hr hgu, ?_⟩
    unfold mkF at hf
    obtain ⟨c, hc, hf⟩ := Option.bind_eq_some_iff.mp hf
    refine he _ M c hc F π G H (L2.start N vs) R (slots_start hs) _ ?_
    cases c with
    | nx ρ M1 =>
      intro π' G' H' σ' g R' S'
      obtain ⟨π'', g2, R2, s2⟩ := fin_ok hf R.len g R' (.dat .non)
      exact q π'' G' H' _ g2 R2 s2
    | rt v M1 =>
      intro π' G' H' u g R' s'
      obtain ⟨π'', g2, R2, s2⟩ := fin_ok hf R.len g R' s'
      exact q π'' G' H' _ g2 R2 s2
    | bk _ _ => cases hf
    | ct _ _ => cases hf
/-- a def of which nothing is asked -/
theorem fn_noneG {x ql : Str} {st : Stmt} {f : Addr} {fd : FuncData} {N ps : List Str} {k : Nat} (Fu : Fun K x ql st f fd) (Sc : FnScope N ps (defScope st)) : FnG P w K mg base (k + 1) f fd ps (spF K ps.length (fun _ _ => none)) := by
  refine fng_fun Fu Sc (fun vs H Q E h => ?_) (fun cd A out s H vs Q hr hgu h => ?_)
  · obtain ⟨args, M, r, M', F, π, G, h, _⟩ := h
    cases h
  · obtain ⟨args, M, r, M', F, π, G, h, _⟩ := h
    cases h
end
/-! ### its call -/
section
variable {X : Cx} {k : Nat} {f : Addr} {fd : FuncData} {ps : List Str} {sp : Sp} {x : Str} {p pos : Pos} {e : Expr} {es : List Expr} {t : TA}
theorem run_fnG {pins : List (Addr × Obj)} {σ : L2.St} {H : Hp} {s : Shared} {Q : VK} {us : List Value} {vs : List V} (F : FnG X.prog X.w X.K X.mg X.base k f fd ps sp) (hr : Room k X.A) (hgu : X.A.guards = some []) (hb : Binds X.K fd ps [])
    (I : Inv X pins σ H s) (r : Vals vs us) (h : sp vs H Q E0) : wpAny (model X.prog X.w) X.A (call (.ref f) us) (EP X pins σ Q) X.xe s := by
  have hl : us.length = ps.length := by rw [← r.length]; exact F.len vs H Q E0 h
  have bd := hb s us I.kIn (by rw [List.append_nil]; exact hl)
  rw [List.append_nil] at bd
  refine wpAny_call (codeAny_mono (F.run X.A X.stack s H ⟨us, []⟩ us vs Q hr hgu I.env0 bd r h) ?_)
  intro res s' hq
  match res, hq with
  | .error _, hq => exact False.elim hq
  | .ok (.ret _), hq => exact I.after hq
  | .ok .next, hq => exact False.elim hq
  | .ok .brk, hq => exact False.elim hq
  | .ok .cont, hq => exact False.elim hq
theorem pe_callG (F : FnG X.prog X.w X.K X.mg X.base k f fd ps sp) (hr : Room k X.A) (hgu : X.A.guards = some []) (hg : Gl X x) (hm : X.mg x = some (.ref f)) (hk : PySem.W.keepIn X.K (.ref f) = true) (hb : Binds X.K fd ps [])
    (ha : PA X (e :: es) t) (hdb : (x == ("__debug__" : Str)) = false := by decide)
    (he : starEach (e :: es) X.env = (false, eval e X.env) :: starEach es X.env := by rfl)
    (hpl : (backTo pos (starEach es X.env)).any (·.1) = false := by rfl) :
    PE X (.Call (.Name x p) (e :: es) [] pos) (tCall sp [] E0 t) := by
  constructor
  intro pins s σ H Q I h
  refine wpAny_Call_Name_kw (ld_glob I hg hm ?_ hdb)
  have args := ha.run pos pins s σ H _ I h
  refine PySem.W.callWith_K (h₀ := X.base) I.ok.mod.kin hk (thn args ?_) he hpl
  rintro us s1 ⟨vs, H1, I1, r, q⟩
  rw [List.append_nil] at q
  exact ⟨I1.kIn, run_fnG F hr hgu hb I1 r q⟩
theorem pe_callG0 (F : FnG X.prog X.w X.K X.mg X.base k f fd ps sp) (hr : Room k X.A) (hgu : X.A.guards = some []) (hg : Gl X x) (hm : X.mg x = some (.ref f)) (hk : PySem.W.keepIn X.K (.ref f) = true) (hb : Binds X.K fd ps [])
    (hdb : (x == ("__debug__" : Str)) = false := by decide) : PE X (.Call (.Name x p) [] [] pos) (tCall sp [] E0 tNil) := by
  constructor
  intro pins s σ H Q I h
  refine wpAny_Call_Name_kw (ld_glob I hg hm ?_ hdb)
  have h' : sp [] H Q E0 := h
  exact PySem.W.callWith_K0 I.kIn hk (run_fnG (us := []) F hr hgu hb I .nil h')
end

/-! ### the law's end -/
theorem law_callG {P : Program} {w : World} {K : PySem.W.Frag} {mg mb : Str → Option Value} {k : Nat} {fa a : Addr} {fd : FuncData} {x : Str} {sp : Sp} {s1 : Shared} {us : List Value} {ns : List Int}
    (KX : K.In s1.heap) (hns : s1.heap.Ns mainGlobals mg) (hbt : s1.heap.Ns builtinsNs mb) (hbb : ∀ y : Str, y ≠ "__name__" → mb y = bootBuiltins y)
    (hlim : s1.heap.NoLimit) (hgen : s1.gens = #[]) (ha : s1.heap.get? a = some { cls := .type "list", data := .seq us.toArray })
    (hi : IntsAre us ns) (hl : ns.length ≤ sizeLine) (hr : Room k callerA)
    (F : ∀ base : Heap, K.In base → base.Ns mainGlobals mg → FnG P w K mg base k fa fd [x] sp)
    (hbind : ∀ (s : Shared) (u : Value), BindsTo s fd ⟨[u], []⟩ [(x, u)])
    (hsp : ∀ H : Hp, SqL K H a (ns.map V.int) → sp [.ref a] H (fun v _ => v = .bl true) E0) :
    codeAny (model P w) callerA (.call (.ref fa) ⟨[.ref a], []⟩)
      (fun r s' => r = .ok (.ret (.bool true)) ∧ OldK s1.heap s'.heap ∧ s'.os = s1.os ∧ AllBare s'.gens) s1 := by
  -- the script is tracked as locked, unless it is one of the module's own objects
  have main : ∀ H : Hp, SqL K H a (ns.map V.int) → HOk P w H s1.heap →
      (∀ b u, H b = some u → b = a ∧ K.lookup a = none ∧ ∃ ys, u = .frz { cls := .type "list", data := .seq us.toArray } (.lst ys)) →
      codeAny (model P w) callerA (.call (.ref fa) ⟨[.ref a], []⟩)
        (fun r s' => r = .ok (.ret (.bool true)) ∧ OldK s1.heap s'.heap ∧ s'.os = s1.os ∧ AllBare s'.gens) s1 := by
    intro H hS hok only
    have free : ∀ {b : Addr} {o : Obj} {es : Array DictEntry} {ep : Nat}, s1.heap.get? b = some o → o.data = .dict es ep → H b = none := by
      intro b o es ep e d
      match q : H b with
      | none => rfl
      | some u =>
        obtain ⟨rfl, _, _⟩ := only b u q
        rw [ha] at e
        cases e
        exact absurd d (fun z => nomatch z)
    have ns' : ∀ {b : Addr} {m : Str → Option Value}, s1.heap.Ns b m → (hidT s1.heap H).Ns b m := by
      rintro b m ⟨o, es, ep, e, d, r⟩
      exact ⟨o, es, ep, hidT_get e (free e d), d, r⟩
    have kin : K.In (hidT s1.heap H) := by
      intro b o e
      refine hidT_get (KX b o e) ?_
      match q : H b with
      | none => rfl
      | some u =>
        obtain ⟨rfl, hn, _⟩ := only b u q
        rw [hn] at e
        cases e
    obtain ⟨mc, l1, l2⟩ := hlim
    have md : Mod K mg (hidT s1.heap H) := ⟨kin, ns' hns, ⟨mb, ns' hbt, hbb⟩, ⟨mc, ns' l1, l2⟩⟩
    have env : Env0 P w K mg (hidT s1.heap H) callerA [] s1 H := by
      refine ⟨rfl, md, fun b o e => of_hidT e, Nat.le_of_eq (hidT_size _ _), trivial, ?_, hok, .of_eq hgen⟩
      intro b hb
      cases hb
    have go := (F _ kin (ns' hns)).run callerA [] s1 H ⟨[.ref a], []⟩ [.ref a] [.ref a] _ hr rfl env (hbind s1 (.ref a)) (.cons rfl .nil) (hsp H hS)
    refine codeAny_mono go ?_
    intro r s' h
    match r, h with
    | .error _, h => exact False.elim h
    | .ok .next, h => exact False.elim h
    | .ok .brk, h => exact False.elim h
    | .ok .cont, h => exact False.elim h
    | .ok (.ret u), h =>
      obtain ⟨v, H', os, bare, un, hok', ru, q⟩ := h
      have qv : v = .bl true := q
      subst qv
      have qu : u = Value.bool true := ru
      subst qu
      refine ⟨rfl, OldK.of_keep ?_, os, bare⟩
      intro b o e
      match q : H b with
      | none =>
        refine un.keep b o e q ?_ ?_
        · intro z; cases z
        · intro z; cases z
      | some u =>
        obtain ⟨rfl, _, ys, rfl⟩ := only b u q
        obtain ⟨e2, _⟩ := hok' b _ (un.frzs b _ _ q)
        rw [ha] at e
        cases e
        exact e2
  have rv : Vals (ns.map V.int) us := vals_ints hi
  match hk : K.lookup a with
  | some o =>
    have e := KX a o hk
    rw [ha] at e
    cases e
    have len : us.toArray.size ≤ sizeLine := by rw [List.size_toArray, hi.length]; exact hl
    refine main (fun _ => none) (Or.inr ⟨_, us.toArray, _, hk, rfl, rfl, rfl, len, by simpa using rv⟩) ?_ ?_
    · intro b u z; cases z
    · intro b u z; cases z
  | none =>
    refine main (upd (fun _ => none) a (.frz { cls := .type "list", data := .seq us.toArray } (.lst (ns.map V.int)))) (Or.inl (Or.inr ⟨_, upd_same⟩)) ?_ ?_
    · intro b u z
      by_cases hb : b = a
      · subst hb
        rw [upd_same] at z
        cases z
        exact ⟨ha, by rw [List.length_map]; exact hl, us, _, rv, ha⟩
      · rw [upd_ne hb] at z; cases z
    · intro b u z
      by_cases hb : b = a
      · subst hb
        rw [upd_same] at z
        cases z
        exact ⟨rfl, hk, _, rfl⟩
      · rw [upd_ne hb] at z; cases z
/-- the law holds where its plain function says True of every script -/
theorem walk_G {l : PySem.W.OpenLaw} {n k : Nat} {q : Program} {loose : List Str} {XP : (Str → Option Value) → Heap → Prop} {YP : World → Heap → Prop} {d : DefRec} {K : Params → PySem.W.Frag} {f : SF} {x : Str}
    (hn : l.most = some n) (hn2 : n ≤ sizeLine) (hdf : d.params.defaults = []) (hr : Room k callerA)
    (hY : ∀ (w : World) (h : Heap), YP w h → (K w.params).In h)
    (F : ∀ (w : World) (mg : Str → Option Value) (fa : Addr) (h : Heap), (K w.params).In h → h.Ns mainGlobals mg → mg d.name = some (.ref fa) →
      ∃ fd : FuncData, (∀ (s : Shared) (u : Value), BindsTo s fd ⟨[u], []⟩ [(x, u)]) ∧
        ∀ base : Heap, (K w.params).In base → base.Ns mainGlobals mg → FnG l.prog w (K w.params) mg base k fa fd [x] (spF (K w.params) 1 f))
    (hf : ∀ ns : List Int, ns.length ≤ n → (∀ z ∈ ns, Builtin.Int.intBits z ≤ 1048576) → ∃ M, f [.dat (.list (ns.map PyData.int))] [] = some (.dat (.bool true), M)) :
    PySem.W.WalkO q loose XP YP l.row.toRowW d [] (fun g vs => PySem.call g vs) := by
  refine Att.attach_callB hn hdf ?_
  intro w s0 s1 mg mb fa o pm cd doc a us ns G Y ho hd hcd hmg hobj hints hlen hbits hgen
  have KX := hY w _ Y
  obtain ⟨fd, bd, FF⟩ := F w mg fa _ KX G.T.g hmg
  refine law_callG KX G.T.g G.T.b G.T.builtins G.T.nolimit hgen hobj hints (Nat.le_trans hlen hn2) hr FF bd ?_
  intro H hS
  obtain ⟨M, e⟩ := hf ns hlen hbits
  have allI : ∀ (ks : List Int), DqAll (K w.params) H (ks.map V.int) (ks.map PyData.int) := by
    intro ks
    induction ks with
    | nil => exact .nil
    | cons z ks ih => exact .cons (.int z) ih
  refine ⟨_, [], _, M, fun _ => none, [], H, e, rfl, ⟨Same.refl H, ?_, rfl, ?_, ?_, ?_⟩, .cons (.dat (.lst hS (allI ns))) .nil, ?_⟩
  · intro b u z; cases z
  · intro i xs z; simp at z
  · intro i j xs ys b z; simp at z
  · intro i xs z; simp at z
  · intro π' G' H' v _ _ s'
    cases s' with
    | dat h => cases h; rfl
end Sm

namespace Sm
open PySem PySem.Spec PyProof.Rows L2

/-! ### operations on data -/
def lift2 (g : PyData → PyData → Option PyData) : Mem → SV → SV → Option SV := fun _ x y => match x, y with
  | .dat d, .dat e => (g d e).bind fun r => some (.dat r)
  | _, _ => none
def lift1 (g : PyData → Option PyData) : Mem → SV → Option SV := fun _ x => match x with
  | .dat d => (g d).bind fun r => some (.dat r)
  | _ => none
/-- by data alone -/
def OpD (K : PySem.W.Frag) (r : R2) (g : PyData → PyData → Option PyData) : Prop := ∀ x y z, g x y = some z → ∀ G H v w, Same G H → Dq K G v x → Dq K G w y →
  ∀ Q : VK, (∀ G' H' u, Al G H G' H' → Dq K G' u z → Q u H') → r v w H Q
def UnD (K : PySem.W.Frag) (r : V → Hp → VK → Prop) (g : PyData → Option PyData) : Prop := ∀ x z, g x = some z → ∀ G H v, Same G H → Dq K G v x →
  ∀ Q : VK, (∀ G' H' u, Al G H G' H' → Dq K G' u z → Q u H') → r v H Q
section
variable {K : PySem.W.Frag}
theorem os_lift {r : R2} {g : PyData → PyData → Option PyData} (h : OpD K r g) : OpS K r (lift2 g) := by
  intro M x y z e F π G H v w R sx sy Q q
  cases sx with
  | cel _ => cases y <;> cases e
  | dat dx =>
    cases sy with
    | cel _ => cases e
    | dat dy =>
      obtain ⟨r', h1, h2⟩ := Option.bind_eq_some_iff.mp e
      cases h2
      exact h _ _ _ h1 G H v w R.ex dx dy Q fun G' H' u al d => q G' H' u al (.dat d)
theorem us_lift {r : V → Hp → VK → Prop} {g : PyData → Option PyData} (h : UnD K r g) : UnS K r (lift1 g) := by
  intro M x z e F π G H v R sx Q q
  cases sx with
  | cel _ => cases e
  | dat dx =>
    obtain ⟨r', h1, h2⟩ := Option.bind_eq_some_iff.mp e
    cases h2
    exact h _ _ h1 G H v R.ex dx Q fun G' H' u al d => q G' H' u al (.dat d)

/-! ints -/
def dI (g : Int → Int → Option PyData) : PyData → PyData → Option PyData
  | .int i, .int j => g i j
  | _, _ => none
theorem od_I0 {g : Int → Int → V} {g' : Int → Int → PyData} (h : ∀ i j G, Dq K G (g i j) (g' i j)) : OpD K (rI0 g) (dI fun i j => some (g' i j)) := by
  intro x y z e G H v w sm dx dy Q q
  cases dx <;> cases dy <;> first | cases e | skip
  exact ⟨_, _, rfl, rfl, q G H _ .same (h _ _ G)⟩
theorem od_I {C : Int → Int → Prop} {g : Int → Int → V} {g' : Int → Int → PyData} {c : Int → Int → Bool} (h : ∀ i j G, Dq K G (g i j) (g' i j)) (hc : ∀ i j, c i j = true → C i j) : OpD K (rI C g) (dI fun i j => if c i j = true then some (g' i j) else none) := by
  intro x y z e G H v w sm dx dy Q q
  cases dx <;> cases dy <;> first | cases e | skip
  rename_i i j
  unfold dI at e
  dsimp only at e
  split at e
  · rename_i hh
    cases e
    exact ⟨_, _, rfl, rfl, hc _ _ hh, q G H _ .same (h _ _ G)⟩
  · cases e
def dSub : PyData → PyData → Option PyData := dI fun i j => some (.int (i - j))
def dLt : PyData → PyData → Option PyData := dI fun i j => some (.bool (decide (i < j)))
def dLe : PyData → PyData → Option PyData := dI fun i j => some (.bool (decide (i ≤ j)))
def dGt : PyData → PyData → Option PyData := dI fun i j => some (.bool (decide (j < i)))
def dGe : PyData → PyData → Option PyData := dI fun i j => some (.bool (decide (j ≤ i)))
def dDiv : PyData → PyData → Option PyData := dI fun i j => if (decide (0 < j) && decide (j < 2 ^ 64)) = true then some (.int (i / j)) else none
def dMod : PyData → PyData → Option PyData := dI fun i j => if (decide (0 < j)) = true then some (.int (i % j)) else none
def dPow : PyData → PyData → Option PyData := dI fun i j => if (decide (0 ≤ j) && decide (j ≤ 64) && decide (-(2 ^ 64) < i) && decide (i < 2 ^ 64)) = true then some (.int (i ^ j.toNat)) else none
def mulOk (i j : Int) : Bool := (decide (-(2 ^ 64) < i) && decide (i < 2 ^ 64)) || (decide (-(2 ^ 64) < j) && decide (j < 2 ^ 64))
theorem os_sub : OpS K (rI0 fun i j => .int (i - j)) (lift2 dSub) := os_lift (od_I0 fun _ _ _ => .int _)
theorem os_lt : OpS K (rI0 fun i j => .bl (decide (i < j))) (lift2 dLt) := os_lift (od_I0 fun _ _ _ => .bl _)
theorem os_le : OpS K (rI0 fun i j => .bl (decide (i ≤ j))) (lift2 dLe) := os_lift (od_I0 fun _ _ _ => .bl _)
theorem os_gt : OpS K (rI0 fun i j => .bl (decide (j < i))) (lift2 dGt) := os_lift (od_I0 fun _ _ _ => .bl _)
theorem os_ge : OpS K (rI0 fun i j => .bl (decide (j ≤ i))) (lift2 dGe) := os_lift (od_I0 fun _ _ _ => .bl _)
theorem os_div : OpS K (rI CDivW fun i j => .int (i / j)) (lift2 dDiv) := os_lift (od_I (fun _ _ _ => .int _) fun i j h => by
  rw [Bool.and_eq_true, decide_eq_true_eq, decide_eq_true_eq] at h
  exact wide_div (b := 64) h.1 (by omega) (by decide) (by decide))
theorem os_mod : OpS K (rI (fun _ j => 0 < j) fun i j => .int (i % j)) (lift2 dMod) := os_lift (od_I (fun _ _ _ => .int _) fun i j h => of_decide_eq_true h)
theorem os_pow : OpS K (rI CPow fun i j => .int (i ^ j.toNat)) (lift2 dPow) := os_lift (od_I (fun _ _ _ => .int _) fun i j h => by
  simp only [Bool.and_eq_true, decide_eq_true_eq] at h
  exact ⟨h.1.1.1, by omega, by omega⟩)

/-! + and * -/
def rCatL (K : PySem.W.Frag) : R2 := fun x y H Q => ∃ a b xs ys, x = .ref a ∧ y = .ref b ∧ SqL K H a xs ∧ SqL K H b ys ∧ xs.length + ys.length ≤ sizeLine ∧ ∀ p, H p = none → Q (.ref p) (upd H p (.lst (xs ++ ys)))
theorem op_catL {X : Cx} : OpR X (binaryOp .Add) (rCatL X.K) := by
  intro pins s σ H x y v u Q I rx ry h
  obtain ⟨a, b, xs, ys, rfl, rfl, ha, hb, hz, q⟩ := h
  cases rx
  cases ry
  obtain ⟨its, r1, p1, _⟩ := I.list ha
  obtain ⟨its2, r2, p2, _⟩ := I.list hb
  obtain ⟨⟨c1, d1, dt1, sl1⟩, n1, o1, hc1, hd1, hs1⟩ := p1
  obtain ⟨⟨c2, d2, dt2, sl2⟩, n2, o2, hc2, hd2, hs2⟩ := p2
  dsimp only at hc1 hd1 hs1 hc2 hd2 hs2
  subst hc1 hs1 hc2 hs2
  have l1 := r1.length
  have l2 := r2.length
  have ea : its.toArray ++ its2.toArray = (its ++ its2).toArray := by simp
  refine concat_meets ⟨_, o1, rfl⟩ ⟨_, o2, rfl⟩ noFill_list_add seq_list_add PySem.F.slot_list_add PySem.F.entry_list_add
    (PySem.F.args_list_add_2 _ _) (list_addW a b its.toArray its2.toArray n1 n2 d1 d2 sl1 sl2 (by simp only [List.size_toArray]; omega)) ⟨o1, o2, ?_⟩
  rw [ea]
  refine ⟨.ref s.heap.objs.size, _, I.laid (t' := s.toks) (o := .lst (xs ++ ys)) (fun b ob q => Heap.get?_push_of_some _ q) (Nat.le_refl _) ?_, rfl, q _ (I.hok.fresh (Nat.le_refl _))⟩
  exact ⟨by rw [List.length_append]; exact hz, _, 0, r1.append r2, Heap.get?_push_size _ rfl⟩
theorem OpR.or {X : Cx} {f : Value → Value → Sem Value} {r r' : R2} (h : OpR X f r) (h' : OpR X f r') : OpR X f (fun x y H Q => r x y H Q ∨ r' x y H Q) := by
  intro pins s σ H x y v u Q I rx ry q
  rcases q with q | q
  · exact h pins s σ H x y v u Q I rx ry q
  · exact h' pins s σ H x y v u Q I rx ry q
def rAddA (K : PySem.W.Frag) : R2 := fun x y H Q => rI0 (fun i j => .int (i + j)) x y H Q ∨ (rCatA K x y H Q ∨ rCatL K x y H Q)
theorem op_addA {X : Cx} : OpR X (binaryOp .Add) (rAddA X.K) := OpR.or op_add (OpR.or op_catA op_catL)
def dAdd : PyData → PyData → Option PyData
  | .int i, .int j => some (.int (i + j))
  | .tuple xs, .tuple ys => if xs.length + ys.length ≤ 100000 then some (.tuple (xs ++ ys)) else none
  | .list xs, .list ys => if xs.length + ys.length ≤ 100000 then some (.list (xs ++ ys)) else none
  | _, _ => none
theorem os_add : OpS K (rAddA K) (lift2 dAdd) := os_lift (by
  intro x y z e G H v w sm dx dy Q q
  cases dx <;> cases dy <;> first | cases e | skip
  · exact .inl ⟨_, _, rfl, rfl, q G H _ .same (.int _)⟩
  · rename_i a xs ds hs ha b ys es hs' ha'
    unfold dAdd at e
    dsimp only at e
    split at e
    · rename_i hz
      cases e
      refine .inr (.inr ⟨a, b, xs, ys, rfl, rfl, sm.seq hs, sm.seq hs', sz (by rw [ha.length, ha'.length]; exact hz), fun p hp => ?_⟩)
      have sg : Same G (upd G p (.lst (xs ++ ys))) := same_upd (none_of_same sm hp)
      exact q _ _ _ (.new hp) (.lst (SqL.of upd_same) ((ha.append ha').mono sg))
    · cases e
  · rename_i a xs ds hs ha b ys es hs' ha'
    unfold dAdd at e
    dsimp only at e
    split at e
    · rename_i hz
      cases e
      refine .inr (.inl ⟨a, b, xs, ys, rfl, rfl, same_sqT sm hs, same_sqT sm hs', sz (by rw [ha.length, ha'.length]; exact hz), fun e => ?_, fun _ e => ?_, fun _ _ p hp => ?_⟩)
      · subst e
        cases ha
        exact q G H _ .same (.tup hs' ha')
      · subst e
        cases ha'
        rw [List.append_nil] at q
        exact q G H _ .same (.tup hs ha)
      · have sg : Same G (upd G p (.tup (xs ++ ys))) := same_upd (none_of_same sm hp)
        exact q _ _ _ (.new hp) (.tup (SqT.of upd_same) ((ha.append ha').mono sg))
    · cases e)
theorem tup_mul1 (l : Addr) (its : Array Value) (n : Nat) (dd : Option Addr) (sl : Array (Option Value)) (u : Tok) :
    Meets (Builtin.«tuple.__mul__» ⟨[.ref l, .int 1 u], []⟩) (fun _ R s => s.heap.get? l = some { cls := .type "tuple", dict := dd, data := .seq its n, slots := sl } ∧ R (.ok (.ret (.ref l))) s) :=
  .of_wp fun prog w A R s h => by
    obtain ⟨hp, g, d, tk, os⟩ := s
    obtain ⟨hl, h⟩ := h
    have idx := AutoSeq1.idx_int
    have c1 : (its.isEmpty || (1 : Int) == 1) = true := by simp
    wp_walk using wpAny_loadPart' hl
    repeat (first
      | (refine wpAny_ite_false (decide_eq_false (by decide)) ?_; wp_walk using wpAny_loadPart' hl)
      | (refine wpAny_ite_true (decide_eq_true c1) ?_; wp_walk using wpAny_loadPart' hl))
    exact ⟨_, rfl, h⟩
theorem tup_mul0 (l : Addr) (its : Array Value) (n : Nat) (dd : Option Addr) (sl : Array (Option Value)) (u : Tok) (hne : its.isEmpty = false) :
    Meets (Builtin.«tuple.__mul__» ⟨[.ref l, .int 0 u], []⟩) (fun _ R s => s.heap.get? l = some { cls := .type "tuple", dict := dd, data := .seq its n, slots := sl } ∧
      R (.ok (.ret (Value.ref s.heap.objs.size))) { s with heap := s.heap.push { cls := Value.type "tuple", data := Data.seq #[] }, toks := s.toks }) :=
  .of_wp fun prog w A R s h => by
    obtain ⟨hp, g, d, tk, os⟩ := s
    obtain ⟨hl, h⟩ := h
    have idx := AutoSeq1.idx_int
    have c1 : (its.isEmpty || (0 : Int) == 1) = false := by rw [hne]; rfl
    have c2 : (decide ((0 : Int) ≤ 0) || its.isEmpty) = true := by simp
    wp_walk using wpAny_loadPart' hl
    repeat (first
      | (refine wpAny_ite_false (decide_eq_false (by decide)) ?_; wp_walk using wpAny_loadPart' hl)
      | (refine wpAny_ite_false (decide_eq_false (by rw [c1]; exact Bool.false_ne_true)) ?_; wp_walk using wpAny_loadPart' hl)
      | (refine wpAny_ite_true (decide_eq_true c2) ?_; wp_walk using wpAny_loadPart' hl))
    exact ⟨_, rfl, h⟩
/-- a tuple once, and not at all -/
def rRep01 (K : PySem.W.Frag) : R2 := fun x y H Q => ∃ l xs, x = .ref l ∧ SqT K H l xs ∧ ((y = .int 1 ∧ Q (.ref l) H) ∨ (y = .int 0 ∧ xs ≠ [] ∧ ∀ p, H p = none → Q (.ref p) (upd H p (.tup []))))
theorem op_rep01 {X : Cx} : OpR X (binaryOp .Mult) (rRep01 X.K) := by
  intro pins s σ H x y v u Q I rx ry h
  obtain ⟨l, xs, rfl, hT, h⟩ := h
  cases rx
  obtain ⟨its, r, ⟨⟨cls, dd, data, sl⟩, ho, hc, n, hd⟩, hs⟩ := I.tuple hT
  dsimp only at hc hd
  subst hc hd
  have ty : s.TypeIs (.ref l) "tuple" := ⟨_, ho, rfl⟩
  rcases h with ⟨rfl, q⟩ | ⟨rfl, hne, q⟩
  · obtain ⟨t, rfl⟩ := ry
    have fin := call_meets F.slot_tuple_mul (s := s) (A := X.A) (prog := X.prog) (w := X.w) ty F.entry_tuple_mul
      (F.args_tuple_mul_2 _ _) (tup_mul1 l its.toArray n dd sl t) (Q := EP X pins σ Q) (E := X.xe) ⟨ho, .ref l, H, I, rfl, q⟩
    refine wpAny_binaryOp_repeat_ref (T := "tuple") (U := "int") (by decide) ⟨_, ho, rfl⟩ (fun s' => typeIs_int s' 1 t) noFill_tuple_mul
      F.fills_int_mul F.slot_int_rmul repeat_tuple F.slot_int_index.lookup ?_
    exact call_meets F.slot_int_rmul (typeIs_int s 1 t) F.entry_int_rmul (F.args_int_rmul_2 _ _)
      (int_rmul_tuple 1 t l its.toArray n dd sl) ⟨ho, rfl, ⟨_, ho, rfl⟩, fin⟩
  · obtain ⟨t, rfl⟩ := ry
    have hi : its.toArray.isEmpty = false := by
      cases r with
      | nil => exact absurd rfl hne
      | cons _ _ => rfl
    have nw : Inv X pins σ (upd H s.heap.objs.size (.tup [])) { s with heap := s.heap.push { cls := Value.type "tuple", data := Data.seq #[] }, toks := s.toks } :=
      I.laid (t' := s.toks) (o := .tup []) (fun b ob q => Heap.get?_push_of_some _ q) (Nat.le_refl _) ⟨Nat.zero_le _, [], .nil, IsTup.new _ _⟩
    have fin := call_meets F.slot_tuple_mul (s := s) (A := X.A) (prog := X.prog) (w := X.w) ty F.entry_tuple_mul
      (F.args_tuple_mul_2 _ _) (tup_mul0 l its.toArray n dd sl t hi) (Q := EP X pins σ Q) (E := X.xe) ⟨ho, .ref _, _, nw, rfl, q _ (I.hok.fresh (Nat.le_refl _))⟩
    refine wpAny_binaryOp_repeat_ref (T := "tuple") (U := "int") (by decide) ⟨_, ho, rfl⟩ (fun s' => typeIs_int s' 0 t) noFill_tuple_mul
      F.fills_int_mul F.slot_int_rmul repeat_tuple F.slot_int_index.lookup ?_
    exact call_meets F.slot_int_rmul (typeIs_int s 0 t) F.entry_int_rmul (F.args_int_rmul_2 _ _)
      (int_rmul_tuple 0 t l its.toArray n dd sl) ⟨ho, rfl, ⟨_, ho, rfl⟩, fin⟩
def rMulA (K : PySem.W.Frag) : R2 := fun x y H Q => rI CMul (fun i j => .int (i * j)) x y H Q ∨ (rRepT K x y H Q ∨ rRep01 K x y H Q)
theorem op_mulA {X : Cx} : OpR X (binaryOp .Mult) (rMulA X.K) := OpR.or op_mul (OpR.or op_repT op_rep01)
def dMul : PyData → PyData → Option PyData
  | .int i, .int j => if mulOk i j = true then some (.int (i * j)) else none
  | .tuple xs, .int k => if xs ≠ [] ∧ 0 ≤ k ∧ k ≤ 1000 ∧ xs.length ≤ 1000 then some (.tuple (List.replicate k.toNat xs).flatten) else none
  | _, _ => none
theorem os_mul : OpS K (rMulA K) (lift2 dMul) := os_lift (by
  intro x y z e G H v w sm dx dy Q q
  cases dx <;> cases dy <;> first | cases e | skip
  · unfold dMul at e
    dsimp only at e
    split at e
    · rename_i hh
      cases e
      refine .inl ⟨_, _, rfl, rfl, ?_, q G H _ .same (.int _)⟩
      unfold mulOk at hh
      simp only [Bool.or_eq_true, Bool.and_eq_true, decide_eq_true_eq] at hh
      exact hh
    · cases e
  · rename_i a xs ds hs ha k
    unfold dMul at e
    dsimp only at e
    split at e
    · rename_i hh
      cases e
      have ne : xs ≠ [] := fun z => by subst z; cases ha; exact hh.1 rfl
      by_cases h2 : 2 ≤ k
      · refine .inr (.inl ⟨a, k, xs, rfl, rfl, same_sqT sm hs, ne, h2, hh.2.2.1, by rw [ha.length]; exact hh.2.2.2, fun p hp => ?_⟩)
        have sg : Same G (upd G p (.tup (List.replicate k.toNat xs).flatten)) := same_upd (none_of_same sm hp)
        exact q _ _ _ (.new hp) (.tup (SqT.of upd_same) ((DqAll.flat k.toNat ha).mono sg))
      · have k01 : k = 1 ∨ k = 0 := by omega
        rcases k01 with rfl | rfl
        · refine .inr (.inr ⟨a, xs, rfl, same_sqT sm hs, .inl ⟨rfl, q G H _ .same ?_⟩⟩)
          have e1 : (List.replicate (1 : Int).toNat ds).flatten = ds := by simp
          rw [e1]
          exact .tup hs ha
        · refine .inr (.inr ⟨a, xs, rfl, same_sqT sm hs, .inr ⟨rfl, ne, fun p hp => ?_⟩⟩)
          exact q _ _ _ (.new hp) (.tup (SqT.of upd_same) .nil)
    · cases e)
def dNeg : PyData → Option PyData
  | .int i => some (.int (-i))
  | _ => none
theorem us_neg : UnS K (rU fun i => .int (-i)) (lift1 dNeg) := us_lift (by
  intro x z e G H v sm dx Q q
  cases dx <;> first | cases e | skip
  exact ⟨_, rfl, q G H _ .same (.int _)⟩)

/-! == and != -/
mutual
theorem Dq.dp {G H : Hp} (sm : Same G H) : ∀ (d : PyData) (v : V), d.canLay0 = true → Dq K G v d → Dp K H v d
  | .none, _, _, h => by cases h; exact .non
  | .bool b, _, _, h => by cases h; exact .bl b
  | .int i, _, _, h => by cases h; exact .int i
  | .str x, _, _, h => by cases h; exact .str x
  | .list ds, _, c, h => by
    cases h with
    | lst hs ha => exact .lst (sm.seq hs) (Dq.dpAll sm ds _ (by simpa [PyData.canLay0] using c) ha)
  | .tuple ds, _, c, h => by
    cases h with
    | tup hs ha => exact .tup (same_sqT sm hs) (Dq.dpAll sm ds _ (by simpa [PyData.canLay0] using c) ha)
  | .dict ds, _, c, _ => by simp [PyData.canLay0] at c
theorem Dq.dpAll {G H : Hp} (sm : Same G H) : ∀ (ds : List PyData) (vs : List V), PyData.canLayAll0 ds = true → DqAll K G vs ds → DpAll K H vs ds
  | [], _, _, h => by cases h; exact .nil
  | d :: ds, _, c, h => by
    cases h with
    | cons h1 h2 =>
      have c' : d.canLay0 = true ∧ PyData.canLayAll0 ds = true := by simpa [PyData.canLayAll0] using c
      exact .cons (Dq.dp sm d _ c'.1 h1) (Dq.dpAll sm ds _ c'.2 h2)
end
def lenNe : PyData → PyData → Bool
  | .list xs, .list ys => !(xs.length == ys.length)
  | _, _ => false
def dEq : PyData → PyData → Option PyData
  | .int i, .int j => some (.bool (i == j))
  | .str x, .str y => some (.bool (x == y))
  | d, e => if (SeqAt.shaped d && SeqAt.shaped e) = true then some (.bool (PyData.eqv d e)) else if lenNe d e = true then some (.bool false) else none
def dNe : PyData → PyData → Option PyData
  | .int i, .int j => some (.bool (!(i == j)))
  | .str x, .str y => some (.bool (!(x == y)))
  | d, e => if (SeqAt.shaped d && SeqAt.shaped e) = true then some (.bool (!PyData.eqv d e)) else none
theorem sh_int (i : Int) : SeqAt.shaped (.int i) = true := by simp [SeqAt.shaped, PyData.canLay0, PyData.depth]
def rEqZ (K : PySem.W.Frag) : R2 := fun x y H Q => ∃ a b xs ys, x = .ref a ∧ y = .ref b ∧ SqL K H a xs ∧ SqL K H b ys ∧ xs.length ≠ ys.length ∧ Q (.bl false) H
theorem op_eqZ {X : Cx} (hu : X.A.units + 64 < cLine) : OpR X (compareOp .Eq) (rEqZ X.K) := by
  intro pins s σ H x y v u Q I rx ry h
  obtain ⟨a, b, xs, ys, rfl, rfl, ha, hb, hz, q⟩ := h
  cases rx
  cases ry
  obtain ⟨its, r1, p1, _⟩ := I.list ha
  obtain ⟨its2, r2, p2, _⟩ := I.list hb
  obtain ⟨o1, n1, g1, hc1, _, hd1⟩ := p1
  obtain ⟨o2, n2, g2, hc2, _, hd2⟩ := p2
  have l1 := r1.length
  have l2 := r2.length
  exact SeqAt.eq_list_lengthsAt ⟨o1, g1, hc1, n1, hd1⟩ ⟨o2, g2, hc2, n2, hd2⟩ (by simp; omega) (by omega) ⟨.bl false, H, I, rfl, q⟩
def rEqA (K : PySem.W.Frag) : R2 := fun x y H Q => rEqD K x y H Q ∨ (rEq x y H Q ∨ rEqZ K x y H Q)
def rNeA (K : PySem.W.Frag) : R2 := fun x y H Q => rNeD K x y H Q ∨ rNe x y H Q
theorem op_eqA {X : Cx} (hu : X.A.units + 64 < cLine) : OpR X (compareOp .Eq) (rEqA X.K) := OpR.or (op_eqD hu) (OpR.or op_eq (op_eqZ hu))
theorem op_neA {X : Cx} (hu : X.A.units + 64 < cLine) : OpR X (compareOp .NotEq) (rNeA X.K) := OpR.or (op_neD hu) op_ne
theorem os_eq : OpS K (rEqA K) (lift2 dEq) := os_lift (by
  intro x y z e G H v w sm dx dy Q q
  have gen : SeqAt.shaped x = true → SeqAt.shaped y = true → z = .bool (PyData.eqv x y) → rEqA K v w H Q := fun h1 h2 hz =>
    .inl ⟨x, y, Dq.dp sm x v (SeqAt.canLay_of_shaped h1) dx, Dq.dp sm y w (SeqAt.canLay_of_shaped h2) dy, h1, h2, q G H _ .same (by rw [hz]; exact .bl _)⟩
  unfold dEq at e
  split at e
  · cases e
    exact gen (sh_int _) (sh_int _) (by simp [PyData.eqv])
  · cases e
    cases dx
    cases dy
    refine .inr (.inl ⟨rfl, ?_⟩)
    rw [dec_str]
    exact q G H _ .same (.bl _)
  · split at e
    · rename_i hh
      rw [Bool.and_eq_true] at hh
      cases e
      exact gen hh.1 hh.2 rfl
    · split at e
      · rename_i hh
        cases e
        unfold lenNe at hh
        split at hh
        · cases dx with
          | lst hs ha =>
            cases dy with
            | lst hs' ha' =>
              refine .inr (.inr ⟨_, _, _, _, rfl, rfl, sm.seq hs, sm.seq hs', ?_, q G H _ .same (.bl _)⟩)
              rw [ha.length, ha'.length]
              simpa using hh
        · cases hh
      · cases e)
theorem os_ne : OpS K (rNeA K) (lift2 dNe) := os_lift (by
  intro x y z e G H v w sm dx dy Q q
  have gen : SeqAt.shaped x = true → SeqAt.shaped y = true → z = .bool (!PyData.eqv x y) → rNeA K v w H Q := fun h1 h2 hz =>
    .inl ⟨x, y, Dq.dp sm x v (SeqAt.canLay_of_shaped h1) dx, Dq.dp sm y w (SeqAt.canLay_of_shaped h2) dy, h1, h2, q G H _ .same (by rw [hz]; exact .bl _)⟩
  unfold dNe at e
  split at e
  · cases e
    exact gen (sh_int _) (sh_int _) (by simp [PyData.eqv])
  · cases e
    cases dx
    cases dy
    refine .inr ⟨rfl, ?_⟩
    rw [dec_str]
    exact q G H _ .same (.bl _)
  · split at e
    · rename_i hh
      rw [Bool.and_eq_true] at hh
      cases e
      exact gen hh.1 hh.2 rfl
    · cases e)
theorem room64 {X : Cx} {k : Nat} (hr : Room k X.A) : X.A.units + 64 < cLine := by have := hr.un; omega

/-! is None -/
def dIsN : PyData → PyData → Option PyData
  | .none, .none => some (.bool true)
  | .dict _, .none => some (.bool false)
  | .list _, .none => some (.bool false)
  | .tuple _, .none => some (.bool false)
  | .int _, .none => some (.bool false)
  | .str _, .none => some (.bool false)
  | .bool _, .none => some (.bool false)
  | _, _ => none
def rIsN' : R2 := fun x y H Q => y = .non ∧ Q (.bl (decide (x = .non))) H
theorem os_isN : OpS K rIsN' (lift2 dIsN) := os_lift (by
  intro x y z e G H v w sm dx dy Q q
  cases dy <;> (cases dx <;> first | cases e | skip)
  all_goals exact ⟨rfl, q G H _ .same (.bl _)⟩)

/-! in -/
def flatD : PyData → Bool
  | .none => true
  | .bool _ => true
  | .int _ => true
  | .str _ => true
  | _ => false
def inD (x : PyData) (xs : List PyData) : Bool := xs.any fun y => PyData.eqv y x
theorem flat_of {G : Hp} {v : V} {d : PyData} (h : Dq K G v d) (f : flatD d = true) : flatV v = true := by
  cases h <;> first | rfl | (simp [flatD] at f)
theorem eqV_of {G : Hp} {v w : V} {d e : PyData} (h : Dq K G v d) (h' : Dq K G w e) (f : flatD d = true) (f' : flatD e = true) : eqV v w = PyData.eqv d e := by
  cases h with
  | non => cases h' <;> first | (simp [eqV, PyData.eqv]; done) | (simp [flatD] at f')
  | bl b => cases h' <;> first | (simp [eqV, PyData.eqv]; done) | (simp [flatD] at f')
  | int i => cases h' <;> first | (simp [eqV, PyData.eqv]; done) | (simp [flatD] at f')
  | str x => cases h' <;> first | (simp [eqV, PyData.eqv]; done) | (simp [flatD] at f')
  | lst _ _ => simp [flatD] at f
  | tup _ _ => simp [flatD] at f
  | dic _ _ => simp [flatD] at f
theorem flats_of {G : Hp} : ∀ {vs : List V} {ds : List PyData}, DqAll K G vs ds → ds.all flatD = true → vs.all flatV = true
  | _, _, .nil, _ => rfl
  | _, _, .cons h r, f => by
    rw [List.all_cons, Bool.and_eq_true] at f ⊢
    exact ⟨flat_of h f.1, flats_of r f.2⟩
theorem inV_of {G : Hp} {w : V} {e : PyData} (h' : Dq K G w e) (f' : flatD e = true) : ∀ {vs : List V} {ds : List PyData}, DqAll K G vs ds → ds.all flatD = true → inV w vs = inD e ds
  | _, _, .nil, _ => rfl
  | _, _, .cons h r, f => by
    rw [List.all_cons, Bool.and_eq_true] at f
    have ih := inV_of h' f' r f.2
    unfold inV inD at *
    rw [List.any_cons, List.any_cons, ih, eqV_of h h' f.1 f']
/-- the data of a list or tuple, held still or not -/
def items (M : Mem) : SV → Option (List PyData)
  | .dat (.list ds) => some ds
  | .dat (.tuple ds) => some ds
  | .cel i => match M[i]? with
    | some (some xs) => dats xs
    | _ => none
  | _ => none
theorem items_sq {F : Hp} {π : List Addr} {G H : Hp} {M : Mem} {x : SV} {v : V} {ds : List PyData} (R : Rel K F π G H M) (s : Sv K π G x v) (h : items M x = some ds) : ∃ a xs, v = .ref a ∧ (SqL K H a xs ∨ SqT K H a xs) ∧ DqAll K G xs ds := by
  cases s with
  | dat hd =>
    cases hd <;> first | cases h | skip
    · rename_i a xs hs ha; exact ⟨a, xs, rfl, .inl (R.ex.seq hs), ha⟩
    · rename_i a xs hs ha; exact ⟨a, xs, rfl, .inr (same_sqT R.ex hs), ha⟩
  | @cel i a e =>
    unfold items at h
    dsimp only at h
    split at h
    · rename_i ys hy
      obtain ⟨a', vs, h1, h2, h3, h4, h5⟩ := R.mem i ys hy
      rw [e] at h1; cases h1
      exact ⟨a, vs, rfl, .inl (SqL.of h4), dats_all h h5⟩
    · cases h
def fIn (neg : Bool) : Mem → SV → SV → Option SV := fun M x y => match x with
  | .dat d => (items M y).bind fun ds => if (flatD d && ds.all flatD) = true then some (.dat (.bool (if neg then !inD d ds else inD d ds))) else none
  | _ => none
theorem os_in {neg : Bool} : OpS K (rIn K neg) (fIn neg) := by
  intro M x y z e F π G H v w R sx sy Q q
  cases sx with
  | cel _ => cases e
  | dat dx =>
    unfold fIn at e
    obtain ⟨ds, h1, e⟩ := Option.bind_eq_some_iff.mp e
    split at e
    · rename_i hh
      rw [Bool.and_eq_true] at hh
      cases e
      obtain ⟨a, xs, rfl, hs, ha⟩ := items_sq R sy h1
      refine ⟨a, xs, rfl, hs, flat_of dx hh.1, flats_of ha hh.2, ?_⟩
      rw [inV_of dx hh.1 ha hh.2]
      exact q G H _ .same (.dat (.bl _))
    · cases e

/-! an item -/
def fIx : Mem → SV → SV → Option SV := fun M x y => match x, y with
  | .dat (.list ds), .dat (.int i) => (atI ds i).bind fun d => some (.dat d)
  | .dat (.tuple ds), .dat (.int i) => (atI ds i).bind fun d => some (.dat d)
  | .cel c, .dat (.int i) => match M[c]? with
    | some (some xs) => atI xs i
    | _ => none
  | _, _ => none
theorem atI_of {α β : Type} {xs : List α} {ys : List β} {i : Int} {y : β} (hl : xs.length = ys.length) (h : atI ys i = some y) : ∃ j : Nat, ys[j]? = some y ∧ ∀ x, xs[j]? = some x → atI xs i = some x := by
  unfold atI at h ⊢
  obtain ⟨j, h1, h2⟩ := Option.bind_eq_some_iff.mp h
  refine ⟨j, h2, fun x hx => ?_⟩
  rw [hl, h1]
  exact hx
theorem os_ix : OpS K (rIx K) fIx := by
  intro M x y z e F π G H v w R sx sy Q q
  unfold fIx at e
  split at e
  · rename_i ds i
    obtain ⟨d, h1, e⟩ := Option.bind_eq_some_iff.mp e
    cases e
    cases sy with
    | dat dy =>
      cases dy
      cases sx with
      | dat dx =>
        cases dx with
        | @lst a xs _ hs ha =>
          obtain ⟨j, h2, h3⟩ := atI_of ha.length h1
          obtain ⟨u, hu, du⟩ := ha.get' h2
          exact .inl ⟨a, xs, i, u, rfl, rfl, R.ex.seq hs, h3 u hu, q G H u .same (.dat du)⟩
  · rename_i ds i
    obtain ⟨d, h1, e⟩ := Option.bind_eq_some_iff.mp e
    cases e
    cases sy with
    | dat dy =>
      cases dy
      cases sx with
      | dat dx =>
        cases dx with
        | @tup a xs _ hs ha =>
          obtain ⟨j, h2, h3⟩ := atI_of ha.length h1
          obtain ⟨u, hu, du⟩ := ha.get' h2
          exact .inr (.inl ⟨a, xs, i, u, rfl, rfl, same_sqT R.ex hs, h3 u hu, q G H u .same (.dat du)⟩)
  · rename_i c i
    split at e
    · rename_i ys hy
      cases sy with
      | dat dy =>
        cases dy
        cases sx with
        | @cel _ a ea =>
          obtain ⟨a', vs, h1, h2, h3, h4, h5⟩ := R.mem c ys hy
          rw [ea] at h1; cases h1
          obtain ⟨j, h6, h7⟩ := atI_of h5.length.symm e
          obtain ⟨u, hu, du⟩ := h5.get h6
          exact .inl ⟨a, vs, i, u, rfl, rfl, SqL.of h4, h7 u hu, q G H u .same du⟩
    · cases e
  · cases e

/-! slices -/
def cutD (ds : List PyData) (lo hi : Option Int) : List PyData := (ds.drop (HT.sIx ds.length 0 lo)).take (HT.sIx ds.length ds.length hi - HT.sIx ds.length 0 lo)
def rSlS (K : PySem.W.Frag) : V → Option Int → Option Int → Hp → VK → Prop := fun x l u H Q => rSlL K x l u H Q ∨ rSlA K x l u H Q
theorem sl_seq {X : Cx} : SlR X (rSlS X.K) := by
  intro pins s σ H x v vl vu lo hi sl Q I rx hs pl pu h
  rcases h with h | h
  · exact sl_list pins s σ H x v vl vu lo hi sl Q I rx hs pl pu h
  · exact sl_tupA pins s σ H x v vl vu lo hi sl Q I rx hs pl pu h
def fSl : Mem → SV → Option Int → Option Int → Option SV := fun _ x l u => match x with
  | .dat (.list ds) => some (.dat (.list (cutD ds l u)))
  | .dat (.tuple ds) => some (.dat (.tuple (cutD ds l u)))
  | _ => none
theorem cut_all {G : Hp} {xs : List V} {ds : List PyData} (h : DqAll K G xs ds) (l u : Option Int) : DqAll K G (cutV xs l u) (cutD ds l u) := by
  unfold cutV cutD
  rw [h.length]
  exact (h.drop _).take _
theorem ss_sl : SlS K (rSlS K) fSl := by
  intro M x l u z e F π G H v R sx Q q
  unfold fSl at e
  split at e
  · cases e
    cases sx with
    | dat dx =>
      cases dx with
      | @lst a xs _ hs ha =>
        refine .inl ⟨a, xs, rfl, R.ex.seq hs, fun p hp => ?_⟩
        have sg : Same G (upd G p (.lst (cutV xs l u))) := same_upd (none_of_same R.ex hp)
        exact q _ _ _ (.new hp) (.dat (.lst (SqL.of upd_same) ((cut_all ha l u).mono sg)))
  · rename_i ds
    cases e
    cases sx with
    | dat dx =>
      cases dx with
      | @tup a xs _ hs ha =>
        refine .inr ⟨a, xs, rfl, same_sqT R.ex hs, fun hw => ?_, fun _ p hp => ?_⟩
        · have ew : cutD ds l u = ds := by
            rw [ha.length] at hw
            unfold cutD
            rw [hw.1, hw.2]
            simp
          rw [ew] at q
          exact q G H _ .same (.dat (.tup hs ha))
        · have sg : Same G (upd G p (.tup (cutV xs l u))) := same_upd (none_of_same R.ex hp)
          exact q _ _ _ (.new hp) (.dat (.tup (SqT.of upd_same) ((cut_all ha l u).mono sg)))
  · cases e

/-! calls of built-ins -/
def one (f : Mem → SV → Option SV) : Mem → List SV → Option SV := fun M xs => match xs with
  | [x] => f M x
  | _ => none
theorem cs_one {r : V → Hp → VK → Prop} {f : Mem → SV → Option SV} (h : UnS K r f) : CaS K (fun xs H Q => ∃ x, xs = [x] ∧ r x H Q) (one f) := by
  intro M xs z e F π G H vs R s Q q
  unfold one at e
  split at e
  · cases s with
    | cons s1 s2 =>
      cases s2
      exact ⟨_, rfl, h M _ z e F π G H _ R s1 Q q⟩
  · cases e
/-- len -/
def rLen1 (K : PySem.W.Frag) : V → Hp → VK → Prop := fun x H Q => ∃ p ys, x = .ref p ∧ (SqL K H p ys ∨ SqT K H p ys) ∧ Q (.int ys.length) H
theorem call_len1 {X : Cx} : CallR X (.builtin "len") (fun xs H Q => ∃ x, xs = [x] ∧ rLen1 X.K x H Q) := by
  intro pins s σ H xs us Q I r h
  obtain ⟨x, rfl, p, ys, rfl, hs, q⟩ := h
  exact call_len_seq pins s σ H _ us Q I r ⟨p, ys, rfl, hs, q⟩
def fLen : Mem → SV → Option SV := fun M x => match x with
  | .dat (.list ds) => some (.dat (.int ds.length))
  | .dat (.tuple ds) => some (.dat (.int ds.length))
  | .cel i => match M[i]? with
    | some (some xs) => some (.dat (.int xs.length))
    | _ => none
  | _ => none
theorem us_len : UnS K (rLen1 K) fLen := by
  intro M x z e F π G H v R s Q q
  unfold fLen at e
  split at e
  · cases e
    cases s with
    | dat d =>
      cases d with
      | lst hs ha => exact ⟨_, _, rfl, .inl (R.ex.seq hs), by rw [ha.length]; exact q G H _ .same (.dat (.int _))⟩
  · cases e
    cases s with
    | dat d =>
      cases d with
      | tup hs ha => exact ⟨_, _, rfl, .inr (same_sqT R.ex hs), by rw [ha.length]; exact q G H _ .same (.dat (.int _))⟩
  · rename_i i
    split at e
    · rename_i xs hx
      cases e
      cases s with
      | @cel _ a ea =>
        obtain ⟨a', vs, h1, h2, h3, h4, h5⟩ := R.mem i xs hx
        rw [ea] at h1; cases h1
        exact ⟨a, vs, rfl, .inl (SqL.of h4), by rw [← h5.length]; exact q G H _ .same (.dat (.int _))⟩
    · cases e
  · cases e
def rAbs1 : V → Hp → VK → Prop := fun x H Q => ∃ i, x = .int i ∧ Q (.int (if i < 0 then -i else i)) H
theorem call_abs1 {X : Cx} : CallR X (.builtin "abs") (fun xs H Q => ∃ x, xs = [x] ∧ rAbs1 x H Q) := by
  intro pins s σ H xs us Q I r h
  obtain ⟨x, rfl, i, rfl, q⟩ := h
  exact call_abs pins s σ H _ us Q I r ⟨i, rfl, q⟩
def dAbs : PyData → Option PyData
  | .int i => some (.int (if i < 0 then -i else i))
  | _ => none
theorem us_abs : UnS K rAbs1 (lift1 dAbs) := us_lift (by
  intro x z e G H v sm dx Q q
  cases dx <;> first | cases e | skip
  exact ⟨_, rfl, q G H _ .same (.int _)⟩)
def rInt1 : V → Hp → VK → Prop := fun x H Q => (∃ i, x = .int i ∧ Q (.int i) H) ∨ ∃ k, x = .bl k ∧ Q (.int (if k then 1 else 0)) H
theorem call_int1' {X : Cx} : CallR X (.type "int") (fun xs H Q => ∃ x, xs = [x] ∧ rInt1 x H Q) := by
  intro pins s σ H xs us Q I r h
  obtain ⟨x, rfl, h⟩ := h
  refine call_int1 pins s σ H _ us Q I r ?_
  rcases h with ⟨i, rfl, q⟩ | ⟨i, rfl, q⟩
  · exact .inl ⟨i, rfl, q⟩
  · exact .inr ⟨i, rfl, q⟩
def dInt : PyData → Option PyData
  | .int i => some (.int i)
  | .bool b => some (.int (if b then 1 else 0))
  | _ => none
theorem us_int : UnS K rInt1 (lift1 dInt) := us_lift (by
  intro x z e G H v sm dx Q q
  cases dx <;> first | cases e | skip
  · exact .inr ⟨_, rfl, q G H _ .same (.int _)⟩
  · exact .inl ⟨_, rfl, q G H _ .same (.int _)⟩)
def rTup1 (K : PySem.W.Frag) : V → Hp → VK → Prop := fun x H Q => ∃ p ys, x = .ref p ∧ ((SqL K H p ys ∧ ∀ l, H l = none → Q (.ref l) (upd H l (.tup ys))) ∨ (SqT K H p ys ∧ Q (.ref p) H))
theorem call_tuple1 {X : Cx} : CallR X (.type "tuple") (fun xs H Q => ∃ x, xs = [x] ∧ rTup1 X.K x H Q) := by
  intro pins s σ H xs us Q I r h
  obtain ⟨x, rfl, p, ys, rfl, q⟩ := h
  exact call_tuple_of pins s σ H _ us Q I r ⟨p, ys, rfl, q⟩
def rLst1 (K : PySem.W.Frag) : V → Hp → VK → Prop := fun x H Q => ∃ p ys, x = .ref p ∧ (SqL K H p ys ∨ SqT K H p ys) ∧ ∀ l, H l = none → Q (.ref l) (upd H l (.lst ys))
theorem call_list1 {X : Cx} : CallR X (.type "list") (fun xs H Q => ∃ x, xs = [x] ∧ rLst1 X.K x H Q) := by
  intro pins s σ H xs us Q I r h
  obtain ⟨x, rfl, p, ys, rfl, q⟩ := h
  exact call_list_of pins s σ H _ us Q I r ⟨p, ys, rfl, q⟩
def fTuple : Mem → SV → Option SV := fun M x => (items M x).bind fun ds => some (.dat (.tuple ds))
def fList : Mem → SV → Option SV := fun M x => (items M x).bind fun ds => some (.dat (.list ds))
theorem us_tuple : UnS K (rTup1 K) fTuple := by
  intro M x z e F π G H v R s Q q
  unfold fTuple at e
  obtain ⟨ds, h1, e⟩ := Option.bind_eq_some_iff.mp e
  cases e
  cases s with
  | dat d =>
    cases d <;> first | cases h1 | skip
    · rename_i a xs hs ha
      refine ⟨a, xs, rfl, .inl ⟨R.ex.seq hs, fun p hp => ?_⟩⟩
      exact q _ _ _ (.new hp) (.dat (.tup (SqT.of upd_same) (ha.mono (same_upd (none_of_same R.ex hp)))))
    · rename_i a xs hs ha
      exact ⟨a, xs, rfl, .inr ⟨same_sqT R.ex hs, q G H _ .same (.dat (.tup hs ha))⟩⟩
  | @cel i a ea =>
    unfold items at h1
    dsimp only at h1
    split at h1
    · rename_i ys hy
      obtain ⟨a', vs, p1, p2, p3, p4, p5⟩ := R.mem i ys hy
      rw [ea] at p1; cases p1
      refine ⟨a, vs, rfl, .inl ⟨SqL.of p4, fun p hp => ?_⟩⟩
      exact q _ _ _ (.new hp) (.dat (.tup (SqT.of upd_same) ((dats_all h1 p5).mono (same_upd (none_of_same R.ex hp)))))
    · cases h1
theorem us_list : UnS K (rLst1 K) fList := by
  intro M x z e F π G H v R s Q q
  unfold fList at e
  obtain ⟨ds, h1, e⟩ := Option.bind_eq_some_iff.mp e
  cases e
  obtain ⟨a, xs, rfl, hs, ha⟩ := items_sq R s h1
  exact ⟨a, xs, rfl, hs, fun p hp => q _ _ _ (.new hp) (.dat (.lst (SqL.of upd_same) (ha.mono (same_upd (none_of_same R.ex hp)))))⟩

/-! isinstance -/
def tyD : PyData → String
  | .none => "NoneType"
  | .bool _ => "bool"
  | .int _ => "int"
  | .str _ => "str"
  | .list _ => "list"
  | .tuple _ => "tuple"
  | .dict _ => "dict"
def rIsi1 (K : PySem.W.Frag) (T : String) : V → Hp → VK → Prop := fun x H Q => ∃ (t : String) (b : Bool), TyX K H x (.type t) ∧ kitB t T = some b ∧ Q (.bl b) H
theorem call_isi1 {X : Cx} {T : String} : CallR X (.builtin "isinstance") (fun xs H Q => ∃ x, xs = [x, .ty T] ∧ rIsi1 X.K T x H Q) := by
  intro pins s σ H xs us Q I r h
  obtain ⟨x, rfl, t, b, ht, hb, q⟩ := h
  exact call_isi pins s σ H _ us Q I r ⟨x, .ty T, _, _, b, rfl, .ty T, ht, kit_ty hb, q⟩
theorem tyx_of {G H : Hp} (sm : Same G H) {v : V} {d : PyData} (h : Dq K G v d) : TyX K H v (.type (tyD d)) := by
  cases h with
  | non => exact .base .non
  | bl b => exact .base (.bl b)
  | int i => exact .base (.int i)
  | str x => exact .base (.str x)
  | lst hs ha =>
    rcases sm.seq hs with (h | ⟨o, h⟩) | ⟨o, its, n, h1, h2, _⟩
    · exact .base (.lst h)
    · exact .base (.frz h)
    · exact .kList h1 h2
  | tup hs ha =>
    rcases same_sqT sm hs with (h | ⟨o, h⟩) | ⟨o, its, n, h1, h2, _⟩
    · exact .base (.tup h)
    · exact .fTuple h
    · exact .kTuple h1 h2
  | dic hs ha =>
    rcases same_rd sm hs with h | ⟨o, h⟩
    · exact .base (.dK h)
    · exact .fDict h
def fIsi (T : String) : Mem → SV → Option SV := lift1 fun d => (kitB (tyD d) T).bind fun b => some (.bool b)
theorem us_isi {T : String} : UnS K (rIsi1 K T) (fIsi T) := us_lift (by
  intro x z e G H v sm dx Q q
  obtain ⟨b, h1, h2⟩ := Option.bind_eq_some_iff.mp e
  cases h2
  exact ⟨tyD x, b, tyx_of sm dx, h1, q G H _ .same (.bl b)⟩)
/-- the call of isinstance as an expression: its second argument a built-in type's name -/
def tIsi (K : PySem.W.Frag) (T : String) (ta : TE) : TE := fun σ H Q => ta σ H fun x H1 => rIsi1 K T x H1 Q
theorem pe_isi {X : Cx} {T : String} {y : Str} {a : Expr} {ta : TE} {p p2 pos : Pos} (hg : Gl X "isinstance") (hm : X.mg "isinstance" = none) (hg2 : Gl X y) (hm2 : X.mg y = none) (hv : bootBuiltins y = some (.type T)) (ha : PE X a ta)
    (he : starEach [a, .Name y p2] X.env = (false, eval a X.env) :: starEach [.Name y p2] X.env := by rfl) (hpl : (backTo pos (starEach [.Name y p2] X.env)).any (·.1) = false := by rfl) (hn : y ≠ "__name__" := by decide) (hdb : (y == ("__debug__" : Str)) = false := by decide) :
    PE X (.Call (.Name "isinstance" p) [a, .Name y p2] [] pos) (tIsi X.K T ta) := by
  have h := pe_callB (X := X) (x := "isinstance") (p := p) (pos := pos) (call_isi1 (T := T)) hg hm (by decide +kernel) (pa_cons ha (pa_cons (pe_bltn (v := .ty T) hg2 hm2 hv rfl hn hdb) pa_nil) he) (by decide) (by decide) he hpl
  refine ⟨fun pins s σ H Q I q => h.run pins s σ H Q I ?_⟩
  refine Eq.mp (congrArg (fun k => ta σ H k) (funext fun x => funext fun H1 => propext ⟨fun z => ?_, fun z => ?_⟩)) q
  · exact ⟨x, rfl, z⟩
  · obtain ⟨x', e, z⟩ := z
    cases e
    exact z
theorem ev_isi {T : String} {ta : TE} {a : SE} (ha : EvS K ta a) : EvS K (tIsi K T ta) (eUn (fIsi T) a) := ev_un ha us_isi

/-! all, sum, sorted -/
def boolsOf : List PyData → Option (List Bool)
  | [] => some []
  | .bool b :: r => (boolsOf r).bind fun bs => some (b :: bs)
  | _ :: _ => none
def intsOf : List PyData → Option (List Int)
  | [] => some []
  | .int b :: r => (intsOf r).bind fun bs => some (b :: bs)
  | _ :: _ => none
theorem bools_of {G : Hp} : ∀ {vs : List V} {ds : List PyData} {bs : List Bool}, DqAll K G vs ds → boolsOf ds = some bs → vs = bs.map V.bl
  | _, _, _, .nil, h => by cases h; rfl
  | _, _, _, .cons h r, e => by
    cases h <;> first | cases e | skip
    unfold boolsOf at e
    obtain ⟨bs, h1, e⟩ := Option.bind_eq_some_iff.mp e
    cases e
    rw [bools_of r h1]; rfl
theorem ints_of {G : Hp} : ∀ {vs : List V} {ds : List PyData} {bs : List Int}, DqAll K G vs ds → intsOf ds = some bs → vs = bs.map V.int
  | _, _, _, .nil, h => by cases h; rfl
  | _, _, _, .cons h r, e => by
    cases h <;> first | cases e | skip
    unfold intsOf at e
    obtain ⟨bs, h1, e⟩ := Option.bind_eq_some_iff.mp e
    cases e
    rw [ints_of r h1]; rfl
def rAll1 (K : PySem.W.Frag) : V → Hp → VK → Prop := fun x H Q => ∃ (a : Addr) (bs : List Bool), x = .ref a ∧ SqL K H a (bs.map V.bl) ∧ Q (.bl (bs.all id)) H
theorem call_all1 {X : Cx} (hc : X.calm = true) : CallR X (.builtin "all") (fun xs H Q => ∃ x, xs = [x] ∧ rAll1 X.K x H Q) := by
  intro pins s σ H xs us Q I r h
  obtain ⟨x, rfl, p, ys, rfl, q⟩ := h
  exact cr_all hc pins s σ H _ us Q I r ⟨p, ys, rfl, q⟩
def dAll : PyData → Option PyData
  | .list ds => (boolsOf ds).bind fun bs => some (.bool (bs.all id))
  | _ => none
theorem us_all : UnS K (rAll1 K) (lift1 dAll) := us_lift (by
  intro x z e G H v sm dx Q q
  cases dx <;> first | cases e | skip
  rename_i a xs ds hs ha
  obtain ⟨bs, h1, e⟩ := Option.bind_eq_some_iff.mp e
  cases e
  have e := bools_of ha h1
  subst e
  exact ⟨a, bs, rfl, sm.seq hs, q G H _ .same (.bl _)⟩)
def rSum1 (K : PySem.W.Frag) : V → Hp → VK → Prop := fun x H Q => ∃ (a : Addr) (ns : List Int), x = .ref a ∧ SqL K H a (ns.map V.int) ∧ Q (.int ns.sum) H
theorem call_sum1 {X : Cx} (hc : X.calm = true) : CallR X (.builtin "sum") (fun xs H Q => ∃ x, xs = [x] ∧ rSum1 X.K x H Q) := by
  intro pins s σ H xs us Q I r h
  obtain ⟨x, rfl, p, ys, rfl, q⟩ := h
  exact cr_sum hc pins s σ H _ us Q I r ⟨p, ys, rfl, q⟩
def dSum : PyData → Option PyData
  | .list ds => (intsOf ds).bind fun bs => some (.int bs.sum)
  | _ => none
theorem us_sum : UnS K (rSum1 K) (lift1 dSum) := us_lift (by
  intro x z e G H v sm dx Q q
  cases dx <;> first | cases e | skip
  rename_i a xs ds hs ha
  obtain ⟨bs, h1, e⟩ := Option.bind_eq_some_iff.mp e
  cases e
  have e := ints_of ha h1
  subst e
  exact ⟨a, bs, rfl, sm.seq hs, q G H _ .same (.int _)⟩)

/-! append, and a list that is held still from now on -/
def sApp (o : SE) (a : SE) : SS := fun ρ M => (o ρ M).bind fun x => (a ρ x.2).bind fun y => match x.1 with
  | .cel i => match x.2[i]?, y.2[i]?, y.1 with
    | some (some _), some (some xs), .dat d => if xs.length < 100000 then some (.nx ρ (y.2.set i (some (xs ++ [.dat d])))) else none
    | _, _, _ => none
  | _ => none
theorem et_app {to ta : TE} {o a : SE} (ho : EvS K to o) (ha : EvS K ta a) : EvT K (tDrop (tBM K "list" rAppend to (tCons ta tNil))) (sApp o a) := by
  intro ρ M c h F π G H σ R S D q
  unfold sApp at h
  obtain ⟨⟨x, M1⟩, h1, h⟩ := Option.bind_eq_some_iff.mp h
  obtain ⟨⟨y, M2⟩, h2, h⟩ := Option.bind_eq_some_iff.mp h
  cases x with
  | dat _ => cases h
  | cel i =>
    dsimp only at h
    split at h
    · rename_i xs0 xs d hx0 hx
      split at h
      · rename_i hz
        cases h
        refine ho ρ M _ M1 h1 F π G H σ R S _ fun π1 G1 H1 v1 g1 R1 s1 => ?_
        cases s1 with
        | @cel _ a ea =>
          refine ⟨?_, ?_⟩
          · obtain ⟨b, ws, p1, p2, p3, p4, p5⟩ := R1.mem i xs0 hx0
            rw [ea] at p1; cases p1
            exact .inl ⟨rfl, _, SqL.of p4⟩
          · refine ha ρ M1 _ M2 h2 F π1 G1 H1 σ R1 (S.gr g1) _ fun π2 G2 H2 v2 g2 R2 s2 => ?_
            obtain ⟨gs, more, rfl⟩ := g2
            obtain ⟨a', vs, p1, p2, p3, p4, p5⟩ := R2.mem i xs hx
            rw [ix_app ea] at p1; cases p1
            refine ⟨a, vs, v2, rfl, rfl, p4, szl (by rw [← p5.length]; exact hz), ?_⟩
            refine q _ G2 _ σ (g1.trans ⟨gs, more, rfl⟩) (R2.write hx (ix_app ea) (p5.append (.cons s2 .nil)) fun j hj => ?_) (S.gr (g1.trans ⟨gs, more, rfl⟩))
            rcases List.mem_append.mp hj with z | z
            · exact z
            · rcases List.mem_cons.mp z with z | z
              · cases z
              · cases z
      · cases h
    · cases h
def eFrz (a : SE) : SE := fun ρ M => (a ρ M).bind fun x => match x.1 with
  | .cel i => match x.2[i]? with
    | some (some xs) => (dats xs).bind fun ds => some (.dat (.list ds), x.2.set i none)
    | _ => none
  | _ => none
theorem ev_frz {ta : TE} {a : SE} (ha : EvS K ta a) : EvS K ta (eFrz a) := by
  intro ρ M z M' h F π G H σ R S Q q
  unfold eFrz at h
  obtain ⟨⟨x, M1⟩, h1, h⟩ := Option.bind_eq_some_iff.mp h
  refine ha ρ M x M1 h1 F π G H σ R S _ fun π1 G1 H1 v1 g1 R1 s1 => ?_
  cases s1 with
  | dat _ => cases h
  | @cel i a ea =>
    dsimp only at h
    split at h
    · rename_i xs hx
      obtain ⟨ds, hd, h⟩ := Option.bind_eq_some_iff.mp h
      cases h
      obtain ⟨a', vs, p1, p2, p3, p4, p5⟩ := R1.mem i xs hx
      rw [ea] at p1; cases p1
      obtain ⟨R2, sg⟩ := R1.freeze hx ea p4
      exact q π1 _ H1 _ (g1.trans (.of sg)) R2 (.dat (.lst (SqL.of upd_same) ((dats_all hd p5).mono sg)))
    · cases h
end
end Sm

namespace Sm
open PySem PySem.Spec PyProof.Rows L2

/-! ### repr of data -/
mutual
def wt : PyData → Nat
  | .none => 4
  | .bool _ => 5
  | .int _ => 1921
  | .str x => (reprText x).length
  | .list xs => 2 + wtAll xs
  | .tuple xs => 3 + wtAll xs
  | .dict kvs => 2 + wtKv kvs
def wtAll : List PyData → Nat
  | [] => 0
  | x :: xs => wt x + 2 + wtAll xs
def wtKv : List (PyData × PyData) → Nat
  | [] => 0
  | (k, v) :: r => wt k + wt v + 4 + wtKv r
end
mutual
def hasList : PyData → Bool
  | .none | .bool _ | .int _ | .str _ => false
  | .list _ => true
  | .tuple xs => hasListAll xs
  | .dict kvs => hasListKv kvs
def hasListAll : List PyData → Bool
  | [] => false
  | x :: xs => hasList x || hasListAll xs
def hasListKv : List (PyData × PyData) → Bool
  | [] => false
  | (_, v) :: r => hasList v || hasListKv r
end
theorem textFrom_le : ∀ (ts : List Str) (k : Nat) (acc : Str), (textFrom k acc ts).length ≤ acc.length + piled ts
  | [], k, acc => by rw [piled_nil]; exact Nat.le_refl _
  | t :: ts, k, acc => by
    have ih := textFrom_le ts (k + 1) (acc ++ (if k > 0 then ", " else "" : String) ++ t)
    rw [strLen_append, strLen_append] at ih
    have e : ((if k > 0 then ", " else "" : String) : Str).length ≤ 2 := by
      split
      · exact Nat.le_refl _
      · exact Nat.zero_le _
    rw [piled_cons]
    show (textFrom (k + 1) _ ts).length ≤ _
    omega
theorem join_le (ts : List Str) : (Str.join ", " ts).length ≤ piled ts := by
  cases ts with
  | nil => exact Nat.zero_le _
  | cons t r =>
    have := join_length_add (t :: r) (by simp)
    omega
mutual
theorem shown_le : ∀ d : PyData, d.showable = true → d.shown.length ≤ wt d
  | .none, _ => by simp only [PyData.shown, wt]; decide
  | .bool b, _ => by cases b <;> (simp only [PyData.shown, wt]; decide)
  | .int i, h => by
    simp only [PyData.shown, wt]
    exact int_text_len_1921 (by simpa [PyData.showable] using h)
  | .str x, _ => by simp only [PyData.shown, wt]; exact Nat.le_refl _
  | .list xs, h => by
    have ih := shownAll_le xs (by simpa [PyData.showable] using h)
    simp only [PyData.shown, wt]
    unfold listText
    rw [strLen_append]
    have h1 := textFrom_le (PyData.shownAll xs) 0 "["
    have h2 : (("[" : String) : Str).length = 1 := rfl
    have h3 : (("]" : String) : Str).length = 1 := rfl
    omega
  | .tuple xs, h => by
    have ih := shownAll_le xs (by simpa [PyData.showable] using h)
    simp only [PyData.shown, wt]
    unfold tupleText
    rw [strLen_append, strLen_append]
    have h1 := join_le (PyData.shownAll xs)
    have h2 : (("(" : String) : Str).length = 1 := rfl
    have h3 : ((if (PyData.shownAll xs).length == 1 then ",)" else ")" : String) : Str).length ≤ 2 := by
      split
      · exact Nat.le_refl _
      · exact (by decide : (1 : Nat) ≤ 2)
    omega
  | .dict kvs, h => by
    have ih := shownKv_le kvs (by simpa [PyData.showable] using h)
    simp only [PyData.shown, wt]
    unfold dictText
    rw [strLen_append, strLen_append]
    have h1 := join_le (PyData.shownKv kvs)
    have h2 : (("{" : String) : Str).length = 1 := rfl
    have h3 : (("}" : String) : Str).length = 1 := rfl
    omega
theorem shownAll_le : ∀ ds : List PyData, PyData.showableAll ds = true → piled (PyData.shownAll ds) ≤ wtAll ds
  | [], _ => by simp [PyData.shownAll, wtAll, piled]
  | d :: ds, h => by
    have h' : d.showable = true ∧ PyData.showableAll ds = true := by simpa [PyData.showableAll] using h
    have h1 := shown_le d h'.1
    have h2 := shownAll_le ds h'.2
    simp only [PyData.shownAll, wtAll, piled_cons]
    omega
theorem shownKv_le : ∀ ds : List (PyData × PyData), PyData.showableKv ds = true → piled (PyData.shownKv ds) ≤ wtKv ds
  | [], _ => by simp [PyData.shownKv, wtKv, piled]
  | (k, v) :: ds, h => by
    have h' : (k.showable = true ∧ v.showable = true) ∧ PyData.showableKv ds = true := by simpa [PyData.showableKv] using h
    have h1 := shown_le k h'.1.1
    have h2 := shown_le v h'.1.2
    have h3 := shownKv_le ds h'.2
    simp only [PyData.shownKv, wtKv, piled_cons]
    rw [strLen_append, strLen_append]
    have h4 : ((": " : String) : Str).length = 2 := rfl
    omega
end
section
variable {X : Cx} {pins : List (Addr × Obj)} {σ : L2.St} {H : Hp} {s : Shared}
mutual
theorem Dq.reads (I : Inv X pins σ H s) : ∀ (d : PyData) (v : V) (u : Value), Dq X.K H v d → RelV v u → ∃ as, Reads s.heap u d as ∧ (hasList d = false → sysModules ∉ as)
  | .none, _, _, h, r => by
    cases h; cases r
    exact ⟨_, Reads.none, fun _ z => nomatch z⟩
  | .bool b, _, _, h, r => by
    cases h; cases r
    exact ⟨_, Reads.bool b, fun _ z => nomatch z⟩
  | .int i, _, _, h, r => by
    cases h
    obtain ⟨t, rfl⟩ := r
    exact ⟨_, Reads.int i t, fun _ z => nomatch z⟩
  | .str x, _, _, h, r => by
    cases h
    obtain ⟨t, rfl⟩ := r
    exact ⟨_, Reads.str x t, fun _ z => nomatch z⟩
  | .list ds, _, _, h, r => by
    cases h with
    | lst hs ha =>
      cases r
      obtain ⟨its, rv, ⟨o, n, ho, hc, _, hd⟩, _⟩ := I.list hs
      obtain ⟨as, hr, _⟩ := Dq.readsAll I ds _ its ha rv
      exact ⟨_, Reads.list ho hc hd hr, fun z => by simp [hasList] at z⟩
  | .tuple ds, _, _, h, r => by
    cases h with
    | tup hs ha =>
      cases r
      obtain ⟨its, rv, ⟨o, ho, hc, n, hd⟩, _⟩ := I.tuple hs
      obtain ⟨as, hr, hn⟩ := Dq.readsAll I ds _ its ha rv
      exact ⟨_, Reads.tuple ho hc hd hr, fun z => hn (by simpa [hasList] using z)⟩
  | .dict ds, _, _, h, r => by
    cases h with
    | @dic a kvs _ hs ha =>
      cases r
      obtain ⟨_, hsm, vs, hkv, o, es, ep, e1, e2, e3, _, e4, _⟩ := hs.ok I.hok
      obtain ⟨as, bs, k1, k2, hn1, hn2⟩ := Dq.readsKv I ds kvs vs ha hkv es.toList e4
      refine ⟨_, Reads.dict e1 e2.1 e3 k1 k2, fun z hm => ?_⟩
      rcases List.mem_append.mp hm with hm | hm
      · rcases List.mem_cons.mp hm with q | q
        · rw [← q] at hsm
          simp at hsm
        · exact hn1 q
      · exact hn2 (by simpa [hasList] using z) hm
theorem Dq.readsAll (I : Inv X pins σ H s) : ∀ (ds : List PyData) (vs : List V) (us : List Value), DqAll X.K H vs ds → Vals vs us → ∃ as, ReadsAll s.heap us ds as ∧ (hasListAll ds = false → sysModules ∉ as)
  | [], _, _, h, r => by
    cases h; cases r
    exact ⟨_, ReadsAll.nil, fun _ z => nomatch z⟩
  | d :: ds, _, _, h, r => by
    cases h with
    | cons h1 h2 =>
      cases r with
      | cons r1 r2 =>
        obtain ⟨as, q1, n1⟩ := Dq.reads I d _ _ h1 r1
        obtain ⟨bs, q2, n2⟩ := Dq.readsAll I ds _ _ h2 r2
        refine ⟨_, ReadsAll.cons q1 q2, fun z hm => ?_⟩
        have z' : hasList d = false ∧ hasListAll ds = false := by simpa [hasListAll] using z
        rcases List.mem_append.mp hm with hm | hm
        · exact n1 z'.1 hm
        · exact n2 z'.2 hm
theorem Dq.readsKv (I : Inv X pins σ H s) : ∀ (ds : List (PyData × PyData)) (kvs : List (Key × V)) (vs : List (Key × Value)), DqKv X.K H kvs ds → KV kvs vs → ∀ es : List DictEntry, Pairs (mixKind X.prog X.w) es vs →
    ∃ as bs, ReadsAll s.heap (es.map (·.key)) (ds.map (·.1)) as ∧ ReadsAll s.heap (es.map (·.val)) (ds.map (·.2)) bs ∧ sysModules ∉ as ∧ (hasListKv ds = false → sysModules ∉ bs)
  | [], _, _, h, r, es, e => by
    cases h; cases r; cases e
    exact ⟨_, _, ReadsAll.nil, ReadsAll.nil, (fun z => nomatch z), fun _ z => nomatch z⟩
  | _ :: ds, _, _, h, r, es, e => by
    cases h with
    | @cons k v vs' d _ h1 h2 =>
      cases r with
      | cons r1 r2 =>
        cases e with
        | @cons en kv es' kvs' hk hv ht =>
          obtain ⟨as, bs, k1, k2, n1, n2⟩ := Dq.readsKv I ds _ _ h2 r2 es' ht
          obtain ⟨e1, e2⟩ := r1
          dsimp only at e1 e2
          obtain ⟨cs, q1, m1⟩ := Dq.reads I _ _ en.val h1 (by rw [hv]; exact e2)
          have hk' : keyIs k en.key = true := by rw [e1]; exact hk
          have key : ∃ t, (∃ i, (kD k = PyData.int i ∧ en.key = Value.int i t)) ∨ ∃ x, (kD k = PyData.str x ∧ en.key = Value.str x t) := by
            rcases keyIs_shape hk' with ⟨i, t, q, w⟩ | ⟨x, t, q, w⟩
            · exact ⟨t, .inl ⟨i, by rw [q]; rfl, w⟩⟩
            · exact ⟨t, .inr ⟨x, by rw [q]; rfl, w⟩⟩
          have rk : Reads s.heap en.key (kD k) [] := by
            obtain ⟨t, ⟨i, q, w⟩ | ⟨x, q, w⟩⟩ := key
            · rw [q, w]; exact Reads.int i t
            · rw [q, w]; exact Reads.str x t
          refine ⟨[] ++ as, cs ++ bs, ReadsAll.cons rk k1, ReadsAll.cons q1 k2, n1, fun z hm => ?_⟩
          have z' : hasList d = false ∧ hasListKv ds = false := by simpa [hasListKv] using z
          rcases List.mem_append.mp hm with hm | hm
          · exact m1 z'.1 hm
          · exact n2 z'.2 hm
end
/-- repr(x) -/
def rRepr1 (K : PySem.W.Frag) : V → Hp → VK → Prop := fun x H Q => ∃ d : PyData, Dq K H x d ∧ d.showable = true ∧ d.depth ≤ 64 ∧ wt d ≤ 1000000 ∧ (d.hasDict = true → hasList d = false) ∧ Q (.str d.shown) H
theorem call_repr1 (hg : X.A.guards = some []) {k : Nat} (hr : Room k X.A) : CallR X (.builtin "repr") (fun xs H Q => ∃ x, xs = [x] ∧ rRepr1 X.K x H Q) := by
  intro pins s σ H xs us Q I r h
  obtain ⟨x, rfl, d, hd, hs, hp, hw, hl, q⟩ := h
  obtain ⟨u, rfl, ru⟩ := vals1 r
  obtain ⟨as, hr', hn⟩ := Dq.reads I d x u hd ru
  have hz : d.shown.length ≤ sizeLine := Nat.le_trans (shown_le d hs) (Nat.le_trans hw (by decide))
  have hu := hr.un
  have ref : ∀ a, u = .ref a → wpAny (model X.prog X.w) X.A (call (.builtin "repr") [u]) (EP X pins σ Q) X.xe s := by
    intro a e
    subst e
    refine repr_of_reads' hr' hs (fun z => hn (hl z)) hg (by omega) (fun b o e => e) (fun h' t tk hk => ?_) hz
    exact ⟨.str d.shown, H, I.kept hk, ⟨_, rfl⟩, q⟩
  cases hd with
  | non =>
    cases ru
    refine PySem.P.repr_of_none ⟨.str "None", H, I.tok _, ⟨_, rfl⟩, ?_⟩
    simpa only [PyData.shown] using q
  | bl b =>
    cases ru
    refine PySem.P.repr_of_bool ⟨.str (if b = true then (Str.ofString "True") else (Str.ofString "False")), H, I.tok _, ⟨_, rfl⟩, ?_⟩
    simpa only [PyData.shown] using q
  | int i =>
    obtain ⟨t, rfl⟩ := ru
    refine PySem.P.repr_of_int (by simpa [PyData.showable] using hs) ⟨.str (toString i), H, I.tok _, ⟨_, rfl⟩, ?_⟩
    simpa only [PyData.shown] using q
  | str x =>
    obtain ⟨t, rfl⟩ := ru
    simp only [PyData.shown] at q hz
    exact PySem.P.repr_of_str ⟨.str (reprText x), H, I.tok _, ⟨_, rfl⟩, q⟩ hz
  | lst _ _ => exact ref _ ru
  | tup _ _ => exact ref _ ru
  | dic _ _ => exact ref _ ru
end
def dRepr (d : PyData) : Option PyData := if (d.showable && decide (d.depth ≤ 64) && decide (wt d ≤ 1000000) && (!d.hasDict || !hasList d)) = true then some (.str d.shown) else none
section
variable {K : PySem.W.Frag}
theorem us_repr : UnS K (rRepr1 K) (lift1 dRepr) := us_lift (by
  intro x z e G H v sm dx Q q
  unfold dRepr at e
  split at e
  · rename_i hh
    cases e
    simp only [Bool.and_eq_true, decide_eq_true_eq, Bool.or_eq_true, Bool.not_eq_true'] at hh
    obtain ⟨⟨⟨h1, h2⟩, h3⟩, h4⟩ := hh
    refine ⟨x, dx.mono sm, h1, h2, h3, fun z => ?_, q G H _ .same (.str _)⟩
    rcases h4 with h | h
    · rw [h] at z; cases z
    · exact h
  · cases e)

/-! ### sorted, list(range(..)), [.. for .. for ..] -/
def insI (x : Int) : List Int → List Int
  | [] => [x]
  | y :: r => if x ≤ y then x :: y :: r else y :: insI x r
def srtI : List Int → List Int
  | [] => []
  | x :: r => insI x (srtI r)
theorem insI_perm (x : Int) : ∀ l : List Int, (insI x l).Perm (x :: l)
  | [] => List.Perm.refl _
  | y :: r => by
    unfold insI
    split
    · exact List.Perm.refl _
    · exact ((insI_perm x r).cons y).trans (List.Perm.swap x y r)
theorem srtI_perm : ∀ l : List Int, (srtI l).Perm l
  | [] => List.Perm.refl _
  | x :: r => (insI_perm x (srtI r)).trans ((srtI_perm r).cons x)
theorem insI_sorted (x : Int) : ∀ l : List Int, l.Pairwise (· ≤ ·) → (insI x l).Pairwise (· ≤ ·)
  | [], _ => List.pairwise_singleton _ _
  | y :: r, h => by
    obtain ⟨h1, h2⟩ := List.pairwise_cons.mp h
    unfold insI
    split
    · rename_i hx
      refine List.pairwise_cons.mpr ⟨fun z hz => ?_, h⟩
      rcases List.mem_cons.mp hz with e | e
      · rw [e]; exact hx
      · exact Int.le_trans hx (h1 z e)
    · rename_i hx
      refine List.pairwise_cons.mpr ⟨fun z hz => ?_, insI_sorted x r h2⟩
      rcases List.mem_cons.mp ((insI_perm x r).mem_iff.mp hz) with e | e
      · rw [e]; omega
      · exact h1 z e
theorem srtI_sorted : ∀ l : List Int, (srtI l).Pairwise (· ≤ ·)
  | [] => List.Pairwise.nil
  | x :: r => insI_sorted x _ (srtI_sorted r)
theorem sorted_eq : ∀ {a b : List Int}, a.Perm b → a.Pairwise (· ≤ ·) → b.Pairwise (· ≤ ·) → a = b
  | [], _, p, _, _ => (List.Perm.nil_eq p)
  | x :: a, [], p, _, _ => by have := p.length_eq; simp at this
  | x :: a, y :: b, p, ha, hb => by
    obtain ⟨a1, a2⟩ := List.pairwise_cons.mp ha
    obtain ⟨b1, b2⟩ := List.pairwise_cons.mp hb
    have hxy : x = y := by
      have h1 : x ∈ y :: b := p.mem_iff.mp List.mem_cons_self
      have h2 : y ∈ x :: a := p.mem_iff.mpr List.mem_cons_self
      rcases List.mem_cons.mp h1 with e | e
      · exact e
      · rcases List.mem_cons.mp h2 with f | f
        · exact f.symm
        · have := a1 y f; have := b1 x e; omega
    subst hxy
    rw [sorted_eq (List.Perm.cons_inv p) a2 b2]
def rSrt1 (K : PySem.W.Frag) : V → Hp → VK → Prop := fun x H Q => ∃ (a : Addr) (ns : List Int), x = .ref a ∧ SqL K H a (ns.map V.int) ∧ ∀ p : Addr, H p = none → Q (.ref p) (upd H p (.lst ((srtI ns).map V.int)))
theorem call_sorted1 {X : Cx} : CallR X (.builtin "sorted") (fun xs H Q => ∃ x, xs = [x] ∧ rSrt1 X.K x H Q) := by
  intro pins s σ H xs us Q I r h
  obtain ⟨x, rfl, p, ns, rfl, hs, q⟩ := h
  refine cr_sortedI pins s σ H _ us Q I r ⟨p, ns, rfl, hs, fun ns' a h1 h2 ha => ?_⟩
  have e : ns' = srtI ns := sorted_eq (h1.trans (srtI_perm ns).symm) h2 (srtI_sorted ns)
  subst e
  exact q a ha
def fSorted : Mem → SV → Option SV := fun M x => match x with
  | .dat (.tuple _) => none
  | x => (items M x).bind fun ds => (intsOf ds).bind fun ns => some (.dat (.list ((srtI ns).map PyData.int)))
theorem ints_all {G : Hp} : ∀ (ns : List Int), DqAll K G (ns.map V.int) (ns.map PyData.int)
  | [] => .nil
  | n :: r => .cons (.int n) (ints_all r)
theorem us_sorted : UnS K (rSrt1 K) fSorted := by
  intro M x z e F π G H v R s Q q
  unfold fSorted at e
  split at e
  · cases e
  · rename_i hne
    obtain ⟨ds, h1, e⟩ := Option.bind_eq_some_iff.mp e
    obtain ⟨ns, h2, e⟩ := Option.bind_eq_some_iff.mp e
    cases e
    have fin : ∀ a xs, v = .ref a → SqL K H a xs → DqAll K G xs ds → rSrt1 K v H Q := by
      intro a xs e hs ha
      have e2 := ints_of ha h2
      subst e2
      exact ⟨a, ns, e, hs, fun p hp => q _ _ _ (.new hp) (.dat (.lst (SqL.of upd_same) (ints_all _)))⟩
    cases s with
    | dat d =>
      cases d <;> first | cases h1 | skip
      · rename_i a xs hs ha
        exact fin a xs rfl (R.ex.seq hs) ha
      · exact absurd rfl (hne _)
    | @cel i a ea =>
      unfold items at h1
      dsimp only at h1
      split at h1
      · rename_i ys hy
        obtain ⟨a', vs, p1, p2, p3, p4, p5⟩ := R.mem i ys hy
        rw [ea] at p1; cases p1
        exact fin a vs rfl (SqL.of p4) (dats_all h1 p5)
      · cases h1
def eLr2 (a b : SE) : SE := fun ρ M => (a ρ M).bind fun x => (b ρ x.2).bind fun y => match x.1, y.1 with
  | .dat (.int i), .dat (.int j) => if (-(2 ^ 20) ≤ i ∧ i < 2 ^ 20) ∧ -(2 ^ 20) ≤ j ∧ j < 2 ^ 20 then some (.dat (.list (rangeD i j)), y.2) else none
  | _, _ => none
theorem rg_all {G : Hp} (i j : Int) : DqAll K G (rgV i j) (rangeD i j) := by
  unfold rgV rangeD
  generalize List.range (j - i).toNat = l
  induction l with
  | nil => exact .nil
  | cons a l ih => exact .cons (.int _) ih
theorem ev_lr2 {ta tb : TE} {a b : SE} (ha : EvS K ta a) (hb : EvS K tb b) : EvS K (tLstRg (tRg2 ta tb)) (eLr2 a b) := by
  intro ρ M z M' h F π G H σ R S Q q
  unfold eLr2 at h
  obtain ⟨⟨x, M1⟩, h1, h⟩ := Option.bind_eq_some_iff.mp h
  obtain ⟨⟨y, M2⟩, h2, h⟩ := Option.bind_eq_some_iff.mp h
  refine ha ρ M x M1 h1 F π G H σ R S _ fun π1 G1 H1 v1 g1 R1 s1 => ?_
  refine hb ρ M1 y M2 h2 F π1 G1 H1 σ R1 (S.gr g1) _ fun π2 G2 H2 v2 g2 R2 s2 => ?_
  cases s1 with
  | cel _ => cases h
  | dat d1 =>
    cases d1 with
    | int i =>
      cases s2 with
      | cel _ => cases h
      | dat d2 =>
        cases d2 with
        | int j =>
          dsimp only at h
          split at h
          · rename_i hh
            cases h
            refine ⟨i, j, rfl, rfl, ⟨by omega, by omega, by omega, by omega, by omega⟩, fun p hp => ?_⟩
            have al : Al G2 H2 (upd G2 p (.lst (rgV i j))) (upd H2 p (.lst (rgV i j))) := .new hp
            exact q π2 _ _ _ ((g1.trans g2).trans (.of (R2.alSame al))) (R2.al al) (.dat (.lst (SqL.of upd_same) (rg_all i j)))
          · cases h
        | _ => cases h
    | _ => cases h
/-- [el for .. in it if tt for .. in it1 if tt1] -/
def lcL2 (g : SG) (tt : SB) (it1 : SI) (g1 : SG) (tt1 : SB) (el : SE) (vs1 : List Nat) (ρ : Rho) : List PyData → Mem → Option (List PyData × Mem)
  | [], M => some ([], M)
  | d :: ds, M => (g (.dat d) ρ M).bind fun y => (tt y.1 y.2).bind fun b => if b.1 = true then (it1 y.1 b.2).bind fun x => if x.1.length ≤ 1000 then (lcL g1 tt1 el (wipeR y.1 vs1) x.1 x.2).bind fun r => (lcL2 g tt it1 g1 tt1 el vs1 ρ ds r.2).bind fun z => some (r.1 ++ z.1, z.2) else none
    else lcL2 g tt it1 g1 tt1 el vs1 ρ ds b.2
def eLc2 (it : SI) (g : SG) (tt : SB) (it1 : SI) (g1 : SG) (tt1 : SB) (el : SE) (vs vs1 : List Nat) : SE := fun ρ M => (it ρ M).bind fun x => if x.1.length ≤ 1000 then (lcL2 g tt it1 g1 tt1 el vs1 (wipeR ρ vs) x.1 x.2).bind fun z => some (.dat (.list z.1), z.2) else none
theorem ev_lc2 {ta : TE} {a : SE} {wi wi1 : TI} {g g1 : TG} {tt tt1 : TT} {it it1 : SI} {sg sg1 : SG} {b b1 : SB} {vs vs1 : List Nat} (hi : EvI K wi it) (hg : EvG K g sg) (hw : GW g vs) (ht : EvB K tt b)
    (hi1 : EvI K wi1 it1) (hg1 : EvG K g1 sg1) (hw1 : GW g1 vs1) (ht1 : EvB K tt1 b1) (he : EvS K ta a) : EvS K (tLc2 wi g tt wi1 g1 tt1 ta vs vs1) (eLc2 it sg b it1 sg1 b1 a vs vs1) := by
  intro ρ M z M' h F π G H σ R S Q q
  unfold eLc2 at h
  obtain ⟨⟨ds, M1⟩, e, h⟩ := Option.bind_eq_some_iff.mp h
  split at h
  · rename_i hz
    dsimp only at hz
    obtain ⟨⟨out, M2⟩, e2, h⟩ := Option.bind_eq_some_iff.mp h
    cases h
    refine hi ρ M ds M1 e F π G H σ R S _ fun π1 G1 H1 J g1' R1 ok => ?_
    intro D hD
    have S1 := (S.gr g1').wiped vs
    have hF := R1.frNone hD
    let W : Nat → Hp → Prop := fun i H => ∃ M π' G' acc vs' rest, i ≤ ds.length ∧ vs'.length ≤ 1000 * i ∧ Gr π1 π' G1 G' ∧ Rel K (upd F D (.lst vs')) π' G' H M ∧ DqAll K G' vs' acc ∧ lcL2 sg b it1 sg1 b1 a vs1 (wipeR ρ vs) (ds.drop i) M = some (rest, M2) ∧ out = acc ++ rest
    refine ⟨fun i m H => m = ds.length - i ∧ W i H, ⟨_, rfl, M1, π1, G1, [], [], out, Nat.zero_le _, Nat.zero_le _, Gr.refl, R1.frame hD, .nil, e2, rfl⟩, ?_⟩
    rintro i m H' ⟨rfl, M3, π', G', acc, vs', rest, hle, hvl, g', R', hacc, hl, ho⟩
    by_cases hlt : i < ds.length
    · refine .inr ⟨ok.go i H' (fun b o x => R'.ex b o (g'.s b o x)) hlt, W (i + 1), fun H'' w => ⟨ds.length - (i + 1), by omega, rfl, w⟩, fun x H'' y => ?_⟩
      obtain ⟨d, G3, e3, al, hd⟩ := ok.yld i H' x H'' G' g'.s R'.ex y hlt
      have ed : ds.drop i = d :: ds.drop (i + 1) := by
        rw [List.drop_eq_getElem_cons hlt]
        rw [List.getElem?_eq_getElem hlt] at e3
        cases e3; rfl
      rw [ed] at hl
      unfold lcL2 at hl
      obtain ⟨⟨ρ2, M4⟩, e4, hl⟩ := Option.bind_eq_some_iff.mp hl
      obtain ⟨⟨bv, M5⟩, e5, hl⟩ := Option.bind_eq_some_iff.mp hl
      have ga := Gr.of (π := π') (R'.alSame al)
      have hwi : wipe (wipe σ vs) vs = wipe σ vs := wipe_wipe σ vs vs (fun v hv => hv)
      have key : ∀ Q' : L2.St → Hp → Prop, (∀ π4 G4 H4 σ4, Gr π' π4 G3 G4 → Rel K (upd F D (.lst vs')) π4 G4 H4 M4 → Slots K π4 G4 ρ2 σ4 → Q' σ4 H4) → g x (wipe σ vs) H'' fun σ2 H2 => wipe σ2 vs = wipe σ vs ∧ Q' σ2 H2 := by
        intro Q' hQ
        have := hw x (wipe σ vs) H'' Q' (hg (.dat d) (wipeR ρ vs) M3 ρ2 M4 e4 (upd F D (.lst vs')) π' G3 H'' x (wipe σ vs) (R'.al al) (S1.gr (g'.trans ga)) (.dat hd) Q' hQ)
        rw [hwi] at this
        exact this
      refine key _ fun π4 G4 H4 σ4 g4 R4 S4 => ?_
      refine ht ρ2 M4 bv M5 e5 _ π4 G4 H4 σ4 R4 S4 _ fun π5 G5 H5 g5 R5 => ?_
      have gg := ((g'.trans ga).trans g4).trans g5
      have gh := (ga.trans g4).trans g5
      cases bv with
      | true =>
        rw [if_pos rfl]
        dsimp only at hl
        rw [if_pos rfl] at hl
        obtain ⟨⟨es, M6⟩, e6, hl⟩ := Option.bind_eq_some_iff.mp hl
        split at hl
        · rename_i hz1
          dsimp only at hz1
          obtain ⟨⟨ys, M7⟩, e7, hl⟩ := Option.bind_eq_some_iff.mp hl
          obtain ⟨⟨zs, M8⟩, e8, hl⟩ := Option.bind_eq_some_iff.mp hl
          cases hl
          refine hi1 ρ2 M5 es M6 e6 _ π5 G5 H5 σ4 R5 (S4.gr g5) _ fun π6 G6 H6 J1 g6 R6 ok1 => ?_
          have S6 := (S4.gr (g5.trans g6)).wiped vs1
          let W1 : Nat → Hp → Prop := fun j H => ∃ M π' G' acc1 vs2 rest1, j ≤ es.length ∧ vs2.length ≤ j ∧ Gr π6 π' G6 G' ∧ Rel K (upd F D (.lst (vs' ++ vs2))) π' G' H M ∧ DqAll K G' vs2 acc1 ∧ lcL sg1 b1 a (wipeR ρ2 vs1) (es.drop j) M = some (rest1, M7) ∧ ys = acc1 ++ rest1
          refine ⟨fun j m H => m = es.length - j ∧ W1 j H, ⟨_, rfl, M6, π6, G6, [], [], ys, Nat.zero_le _, Nat.le_refl _, Gr.refl, by rw [List.append_nil]; exact R6, .nil, e7, rfl⟩, ?_⟩
          rintro j m1 H7 ⟨rfl, M9, π7, G7, acc1, vs2, rest1, hle1, hvl1, g7, R7, hacc1, hl1, ho1⟩
          by_cases hlt1 : j < es.length
          · refine .inr ⟨ok1.go j H7 (fun b o x => R7.ex b o (g7.s b o x)) hlt1, W1 (j + 1), fun H'' w => ⟨es.length - (j + 1), by omega, rfl, w⟩, fun x1 H8 y1 => ?_⟩
            obtain ⟨d1, G8, e9, al1, hd1⟩ := ok1.yld j H7 x1 H8 G7 g7.s R7.ex y1 hlt1
            have ed1 : es.drop j = d1 :: es.drop (j + 1) := by
              rw [List.drop_eq_getElem_cons hlt1]
              rw [List.getElem?_eq_getElem hlt1] at e9
              cases e9; rfl
            rw [ed1] at hl1
            unfold lcL at hl1
            obtain ⟨⟨ρ3, M10⟩, e10, hl1⟩ := Option.bind_eq_some_iff.mp hl1
            obtain ⟨⟨bw, M11⟩, e11, hl1⟩ := Option.bind_eq_some_iff.mp hl1
            have ga1 := Gr.of (π := π7) (R7.alSame al1)
            have hwi1 : wipe (wipe σ4 vs1) vs1 = wipe σ4 vs1 := wipe_wipe σ4 vs1 vs1 (fun v hv => hv)
            have key1 : ∀ Q' : L2.St → Hp → Prop, (∀ π8 G9 H9 σ9, Gr π7 π8 G8 G9 → Rel K (upd F D (.lst (vs' ++ vs2))) π8 G9 H9 M10 → Slots K π8 G9 ρ3 σ9 → Q' σ9 H9) → g1 x1 (wipe σ4 vs1) H8 fun σ2 H2 => wipe σ2 vs1 = wipe σ4 vs1 ∧ Q' σ2 H2 := by
              intro Q' hQ
              have := hw1 x1 (wipe σ4 vs1) H8 Q' (hg1 (.dat d1) (wipeR ρ2 vs1) M9 ρ3 M10 e10 (upd F D (.lst (vs' ++ vs2))) π7 G8 H8 x1 (wipe σ4 vs1) (R7.al al1) (S6.gr (g7.trans ga1)) (.dat hd1) Q' hQ)
              rw [hwi1] at this
              exact this
            refine key1 _ fun π8 G9 H9 σ9 g9 R9 S9 => ?_
            refine ht1 ρ3 M10 bw M11 e11 _ π8 G9 H9 σ9 R9 S9 _ fun π10 G10 H10 g10 R10 => ?_
            have gk := ((g7.trans ga1).trans g9).trans g10
            have gj := (ga1.trans g9).trans g10
            cases bw with
            | true =>
              rw [if_pos rfl]
              dsimp only at hl1
              rw [if_pos rfl] at hl1
              obtain ⟨⟨r, M12⟩, e12, hl1⟩ := Option.bind_eq_some_iff.mp hl1
              refine he ρ3 M11 r M12 e12 _ π10 G10 H10 σ9 R10 (S9.gr g10) _ fun π11 G11 H11 v11 g11 R11 s11 => ?_
              cases s11 with
              | cel _ => cases hl1
              | @dat x' v11 hd11 =>
                dsimp only at hl1
                obtain ⟨⟨rest', M13⟩, e13, hl1⟩ := Option.bind_eq_some_iff.mp hl1
                cases hl1
                refine ⟨vs' ++ vs2, (R11.fr D _ upd_same).1, ?_, ?_⟩
                · rw [List.length_append]
                  have : 1000 * i ≤ 1000 * 1000 := Nat.mul_le_mul_left _ (by omega)
                  exact Nat.lt_of_lt_of_le (show vs'.length + vs2.length < 2000000 by omega) (by decide)
                · refine ⟨M12, π11, G11, acc1 ++ [x'], vs2 ++ [v11], rest', hlt1, by rw [List.length_append]; simp; omega, gk.trans g11, ?_, (hacc1.mono (gj.s.trans g11.s)).append (.cons hd11 .nil), e13, by rw [ho1]; simp⟩
                  have := R11.framed (o' := .lst ((vs' ++ vs2) ++ [v11])) upd_same
                  rw [upd_upd, List.append_assoc] at this
                  rw [List.append_assoc]
                  exact this
            | false =>
              rw [if_neg Bool.false_ne_true]
              dsimp only at hl1
              rw [if_neg Bool.false_ne_true] at hl1
              exact ⟨M11, π10, G10, acc1, vs2, rest1, hlt1, by omega, gk, R10, hacc1.mono gj.s, hl1, ho1⟩
          · have ee : es.drop j = [] := List.drop_of_length_le (by omega)
            rw [ee] at hl1
            cases hl1
            rw [List.append_nil] at ho1
            subst ho1
            refine .inl ⟨ok1.stop j H7 (fun b o x => R7.ex b o (g7.s b o x)) (by omega), ?_⟩
            exact ⟨_, π7, G7, acc ++ ys, vs' ++ vs2, zs, hlt, by rw [List.length_append]; omega, (gg.trans g6).trans g7, R7, (hacc.mono ((gh.s.trans g6.s).trans g7.s)).append hacc1, e8, by rw [ho]; simp⟩
        · cases hl
      | false =>
        rw [if_neg Bool.false_ne_true]
        dsimp only at hl
        rw [if_neg Bool.false_ne_true] at hl
        exact ⟨M5, π5, G5, acc, vs', rest, hlt, by omega, gg, R5, hacc.mono gh.s, hl, ho⟩
    · have e : ds.drop i = [] := List.drop_of_length_le (by omega)
      rw [e] at hl
      cases hl
      rw [List.append_nil] at ho
      subst ho
      obtain ⟨R6, sg6⟩ := R'.unframe hF
      exact .inl ⟨ok.stop i H' (fun b o x => R'.ex b o (g'.s b o x)) (by omega), q π' _ H' _ ((g1'.trans g').trans (.of sg6)) R6 (.dat (.lst (SqL.of upd_same) (hacc.mono sg6)))⟩
  · cases h
end
end Sm

namespace Sm
open PySem PySem.Spec PyProof.Rows L2
section
variable {K : PySem.W.Frag}
/-- a value's truth -/
def bTru (a : SE) : SB := fun ρ M => (a ρ M).bind fun x => match x.1 with
  | .dat (.bool b) => some (b, x.2)
  | .dat (.int i) => some (i != 0, x.2)
  | .dat .none => some (false, x.2)
  | .dat (.list ds) => some (!ds.isEmpty, x.2)
  | .dat (.tuple ds) => some (!ds.isEmpty, x.2)
  | _ => none
theorem isE {G : Hp} {vs : List V} {ds : List PyData} (h : DqAll K G vs ds) : (!ds.isEmpty) = !vs.isEmpty := by cases h <;> rfl
theorem eb_truth {ta : TE} {a : SE} (ha : EvS K ta a) : EvB K (fun σ H Q => ta σ H fun x H' => ∃ k, TruV K x H' k ∧ Q k H') (bTru a) := by
  intro ρ M z M' h F π G H σ R S Q q
  unfold bTru at h
  obtain ⟨⟨x, M1⟩, h1, h⟩ := Option.bind_eq_some_iff.mp h
  refine ha ρ M x M1 h1 F π G H σ R S _ fun π1 G1 H1 v1 g1 R1 s1 => ?_
  cases s1 with
  | cel _ => cases h
  | dat hd =>
    cases hd with
    | bl i => cases h; exact ⟨_, rfl, q π1 G1 H1 g1 R1⟩
    | int i => cases h; exact ⟨_, rfl, q π1 G1 H1 g1 R1⟩
    | non => cases h; exact ⟨_, rfl, q π1 G1 H1 g1 R1⟩
    | lst hs ha => cases h; exact ⟨_, .inl ⟨_, R1.ex.seq hs, isE ha⟩, q π1 G1 H1 g1 R1⟩
    | tup hs ha => cases h; exact ⟨_, .inr (.inl ⟨_, same_sqT R1.ex hs, isE ha⟩), q π1 G1 H1 g1 R1⟩
    | _ => cases h
/-- {} and {'a': x} -/
def eD0 : SE := fun _ M => some (.dat (.dict []), M)
theorem ev_d0 : EvS K tDNewK eD0 := by
  intro ρ M z M' h F π G H σ R S Q q
  cases h
  intro p hp
  have al : Al G H (upd G p (.dK [])) (upd H p (.dK [])) := .new hp
  exact q π _ _ _ (.of (R.alSame al)) (R.al al) (.dat (.dic (.inl upd_same) .nil))
def eD1 (k : Str) (a : SE) : SE := fun ρ M => (a ρ M).bind fun x => match x.1 with
  | .dat d => some (.dat (.dict [(.str k, d)]), x.2)
  | _ => none
theorem ev_d1 {k : Str} {ta : TE} {a : SE} (ha : EvS K ta a) : EvS K (tDisp [(tC (.str k), ta)]) (eD1 k a) := by
  intro ρ M z M' h F π G H σ R S Q q
  unfold eD1 at h
  obtain ⟨⟨x, M1⟩, h1, h⟩ := Option.bind_eq_some_iff.mp h
  intro p hp
  have hF := R.frNone hp
  refine ha ρ M x M1 h1 (upd F p (.dK [])) π G (upd H p (.dK [])) σ (R.frame hp) S _ fun π1 G1 H1 v1 g1 R1 s1 => ?_
  cases s1 with
  | cel _ => cases h
  | @dat d v1 hd =>
    cases h
    refine ⟨(R1.fr p _ upd_same).1, [(.inr k, v1)], rfl, (by show 1 ≤ 15; decide), ?_⟩
    have R2 := R1.framed (o' := .dK (mergeK [] [(.inr k, v1)])) upd_same
    rw [upd_upd] at R2
    obtain ⟨R3, sg⟩ := R2.unframe hF
    exact q π1 _ _ _ (g1.trans (.of sg)) R3 (.dat (.dic (.inl upd_same) (.cons (k := .inr k) (hd.mono sg) .nil)))
/-- a global of the written part -/
theorem ev_glob {v : V} {d : PyData} (hd : ∀ G, Dq K G v d) : EvS K (tC v) (eC d) := ev_c hd
theorem ev_int {i : Int} : EvS K (tC (.int i)) (eC (.int i)) := ev_c fun _ => .int i
theorem ev_bl {b : Bool} : EvS K (tC (.bl b)) (eC (.bool b)) := ev_c fun _ => .bl b
theorem ev_non : EvS K (tC .non) (eC .none) := ev_c fun _ => .non
theorem ev_str {x : Str} : EvS K (tC (.str x)) (eC (.str x)) := ev_c fun _ => .str x
/-- a tuple of the written part, of ints -/
theorem dq_ktup {a : Addr} {ns : List Int} {o : Obj} {its : Array Value} {n : Nat} (h1 : K.lookup a = some o) (h2 : o.cls = .type "tuple") (h3 : o.data = .seq its n) (h4 : its.size ≤ sizeLine) (h5 : Vals (ns.map V.int) its.toList) : ∀ G, Dq K G (.ref a) (.tuple (ns.map PyData.int)) :=
  fun G => .tup (.inr ⟨o, its, n, h1, h2, h3, h4, h5⟩) (ints_all ns)
end
end Sm

namespace Sm
open PySem PySem.Spec PyProof.Rows L2
section
variable {prog : Program} {w : World} {A : Around} {E : Value → Shared → Prop} {s : Shared}
theorem rev_applied {sl : Addr} {vl vu vk : Value} {n : Nat} {Q : Int × Int × Nat → Shared → Prop} (hs : s.heap.IsSliceOf sl vl vu vk) (pl : IsPart vl none) (pu : IsPart vu none) (pk : IsPart vk (some (-1)))
    (h : Q ((n : Int) - 1, -1, n) s) : wpAny (model prog w) A (Builtin.Slice.sliceApplied (.ref sl) (pure (n : Int))) Q E s := by
  obtain ⟨os, hos, hcs, hds⟩ := id hs
  unfold Builtin.Slice.sliceApplied Builtin.Slice.sliceFields
  refine wpAny_bind (wpAny_bind (wpAny_field hos hds (x := vl) rfl (wpAny_bind (wpAny_field hos hds (x := vu) rfl (wpAny_bind (wpAny_field hos hds (x := vk) rfl (wpAny_pure ?_)))))))
  refine wpAny_bind (HT.slicePart_ pk ?_)
  show wpAny _ _ (if ((-1 : Int) == 0) = true then _ else _) _ _ s
  rw [if_neg (by decide)]
  refine wpAny_bind (HT.slicePart_ pl (wpAny_bind (HT.slicePart_ pu (wpAny_bind (wpAny_pure ?_)))))
  have e : Builtin.Slice.sliceAdjust none none (-1) (n : Int) = ((n : Int) - 1, -1) := rfl
  show wpAny _ _ (match Builtin.Slice.sliceAdjust none none (-1) (n : Int) with | (lo, hi) => pure (lo, (-1 : Int), Builtin.Slice.slicePlaces lo hi (-1))) _ _ s
  rw [e]
  show wpAny _ _ (pure ((n : Int) - 1, (-1 : Int), Builtin.Slice.slicePlaces ((n : Int) - 1) (-1) (-1))) _ _ s
  have e2 : Builtin.Slice.slicePlaces ((n : Int) - 1) (-1) (-1) = n := by
    unfold Builtin.Slice.slicePlaces
    have h1 : ¬ ((-1 : Int) > 0) := by decide
    rw [if_neg h1]
    rw [show (- -1 : Int) = 1 by decide, Int.ediv_one]
    split <;> omega
  rw [e2]
  exact wpAny_pure h
theorem fm_congr {α β : Type} {f g : α → Option β} : ∀ l : List α, (∀ x ∈ l, f x = g x) → l.filterMap f = l.filterMap g
  | [], _ => rfl
  | x :: l, h => by
    rw [List.filterMap_cons, List.filterMap_cons, h x List.mem_cons_self, fm_congr l fun y hy => h y (List.mem_cons_of_mem _ hy)]
theorem rev_pick (xs : Array Value) : ((List.range xs.size).filterMap fun (m : Nat) => xs[((xs.size : Int) - 1 + (m : Int) * (-1)).toNat]?).toArray = xs.toList.reverse.toArray := by
  have e : (List.range xs.size).filterMap (fun (m : Nat) => xs[((xs.size : Int) - 1 + (m : Int) * (-1)).toNat]?) = ((List.range xs.size).map fun k => xs.size - 1 - k).filterMap (xs[·]?) := by
    rw [List.filterMap_map]
    apply fm_congr
    intro m hm
    have := List.mem_range.mp hm
    have q : ((xs.size : Int) - 1 + (m : Int) * (-1)).toNat = xs.size - 1 - m := by omega
    show xs[((xs.size : Int) - 1 + (m : Int) * (-1)).toNat]? = xs[xs.size - 1 - m]?
    rw [q]
  rw [e, PySem.W.krv_range, List.filterMap_reverse, PySem.W.krv_all]
open HT in
theorem getItem_tuple_rev {t sl : Addr} {items : Array Value} {vl vu vk : Value} {Q : Value → Shared → Prop} (ht : IsTup s.heap t items) (hs : s.heap.IsSliceOf sl vl vu vk) (pl : IsPart vl none) (pu : IsPart vu none) (pk : IsPart vk (some (-1)))
    (h : Q (.ref s.heap.objs.size) { s with heap := s.heap.push { cls := .type "tuple", data := .seq items.toList.reverse.toArray } })
    (hsz : items.size ≤ sizeLine) : wpAny (model prog w) A (getItem (.ref t) (.ref sl)) Q E s := by
  have htake : sizeOk (.seq items.toList.reverse.toArray) := by
    show items.toList.reverse.toArray.size ≤ sizeLine
    rw [List.size_toArray, List.length_reverse, Array.length_toList]
    omega
  obtain ⟨os, hos, hcs, hds⟩ := id hs
  have hTs : s.TypeIs (.ref sl) "slice" := ⟨os, hos, hcs⟩
  unfold getItem
  try with_reducible refine wpAny_holding ?_
  first | refine wpAny_bind (wpAny_pure ?_) | skip
  refine wpAny_bind (wpAny_sequenceKey ht.typeIs (by decide) ?_)
  refine wpAny_bind (wpAny_callSpecial?_slot (name := Str.ofString "__getitem__") ht.typeIs PyProof.Rows.slot_tuple_getitem
    (wpAny_call_entry PyProof.Rows.slot_tuple_getitem ht.typeIs entry_tuple_getitem ?_ (args_tuple_getitem _ _)))
  show wpAny _ _ (Builtin.Tuple.tupleItemsOf (.ref t) >>= _) _ _ s
  refine wpAny_bind (tupleItemsOf_ ht ?_)
  refine wpAny_bind (wpAny_typeOf hTs ?_)
  rw [if_pos (by decide)]
  refine wpAny_bind (rev_applied hs pl pu pk ?_)
  have hno : ¬ ((((items.size : Int) - 1) == 0 && (-1 : Int) == 1 && items.size == items.size) = true) := by
    intro q
    rw [Bool.and_eq_true, Bool.and_eq_true] at q
    exact absurd q.1.2 (by decide)
  show wpAny _ _ (if (((items.size : Int) - 1) == 0 && (-1 : Int) == 1 && items.size == items.size) = true then _ else _) _ _ s
  rw [if_neg hno, rev_pick]
  first
    | exact wpAny_bind (m := Builtin.Tuple.tupleExact _) (wpAny_newObj_type (wpAny_pure ⟨_, rfl, wpAny_pure h⟩) htake)
    | exact wpAny_bind (m := Builtin.Tuple.tupleExact _) (wpAny_newObj_type (wpAny_bind (wpAny_pure (wpAny_pure ⟨_, rfl, wpAny_pure h⟩))) htake)
    | exact wpAny_bind (wpAny_bind (m := Builtin.Tuple.tupleExact _) (wpAny_newObj_type (wpAny_pure (wpAny_pure ⟨_, rfl, wpAny_pure h⟩)) htake))
    | exact wpAny_bind (wpAny_bind (m := Builtin.Tuple.tupleExact _) (wpAny_newObj_type (wpAny_pure ⟨_, rfl, wpAny_pure h⟩) htake))
end
section
variable {X : Cx}
def rRevA (K : PySem.W.Frag) : V → Hp → VK → Prop := fun x H1 Q => (∃ a xs, x = .ref a ∧ SqL K H1 a xs ∧ ∀ p, H1 p = none → Q (.ref p) (upd H1 p (.lst xs.reverse))) ∨
  (∃ a xs, x = .ref a ∧ SqT K H1 a xs ∧ ∀ p, H1 p = none → Q (.ref p) (upd H1 p (.tup xs.reverse)))
theorem pe_revA {e : Expr} {te : TE} {k : Nat} {p1 p2 p3 pos : Pos} (he : PE X e te) : PE X (.Subscript e (.Slice none none (some (.UnaryOp .USub (.Constant (.int 1) k p1) p2)) p3) pos) (tUn (rRevA X.K) te) := by
  refine ⟨fun pins s σ H Q I h => ?_⟩
  refine Subscript_ (thn (he.run pins s σ H _ I h) fun v s1 ⟨x, H1, I1, r1, q1⟩ => ?_)
  have hst : PO X (some (.UnaryOp .USub (.Constant (.int 1) k p1) p2)) (tPart (tUn (rU fun i => .int (-i)) (tC (.int 1)))) := po_some (pe_un un_neg pe_int)
  refine wpAny_Slice (thn (po_none.run pins s1 σ H1 (fun o H2 => o = none ∧ H2 = H1) I1 ⟨rfl, rfl⟩) fun vl s2 ⟨l, H2, I2, pl, el, e2⟩ => ?_)
  subst el e2
  refine thn (po_none.run pins s2 σ H2 (fun o H3 => o = none ∧ H3 = H2) I2 ⟨rfl, rfl⟩) fun vu s3 ⟨u, H3, I3, pu, eu, e3⟩ => ?_
  subst eu e3
  refine thn (hst.run pins s3 σ H3 (fun o H4 => o = some (-1) ∧ H4 = H3) I3 ⟨1, rfl, -1, rfl, rfl, rfl⟩) fun vs s4 ⟨o, H4, I4, ps, eo, e4⟩ => ?_
  subst eo e4
  have I5 : Inv X pins σ H4 { s4 with heap := s4.heap.push { cls := .type "slice", data := .fields #[vl, vu, vs] } } := I4.kept (t' := s4.toks) fun b ob q => Heap.get?_push_of_some _ q
  rcases q1 with ⟨a, xs, ex, hx, q⟩ | ⟨a, xs, ex, hx, q⟩
  · subst ex
    cases r1
    obtain ⟨its, r, ht, hz⟩ := I5.list hx
    have hlen := r.length
    show wpAny (model X.prog X.w) X.A (subscriptTail e (.Slice none none (some (.UnaryOp .USub (.Constant (.int 1) k p1) p2)) p3) (.ref a) (.ref s4.heap.objs.size)) (EP X pins σ Q) X.xe { s4 with heap := s4.heap.push { cls := .type "slice", data := .fields #[vl, vu, vs] } }
    refine tail_any (ops := [.ref a, .ref s4.heap.objs.size]) ht.isList.typeIs (PySem.slot_list_getitem.lookup) ?_ (by with_unfolding_all rfl)
    refine wpAny_getItem_list_slice ht.isList (Heap.IsSliceOf.new _ vl vu vs) pl pu ps (by decide) ?_ (by rw [List.size_toArray]; omega)
    rw [PySem.W.krv_pick]
    refine ⟨.ref _, _, I5.laid (t' := s4.toks) (o := .lst xs.reverse) (fun b ob q => Heap.get?_push_of_some _ q) (Nat.le_refl _) ?_, rfl, q _ (I5.hok.fresh (Nat.le_refl _))⟩
    exact ⟨by rw [List.length_reverse]; exact hz, _, 0, r.reverse, Heap.get?_push_size _ rfl⟩
  · subst ex
    cases r1
    obtain ⟨its, r, ht, hz⟩ := I5.tuple hx
    have hlen := r.length
    show wpAny (model X.prog X.w) X.A (subscriptTail e (.Slice none none (some (.UnaryOp .USub (.Constant (.int 1) k p1) p2)) p3) (.ref a) (.ref s4.heap.objs.size)) (EP X pins σ Q) X.xe { s4 with heap := s4.heap.push { cls := .type "slice", data := .fields #[vl, vu, vs] } }
    refine tail_any (ops := [.ref a, .ref s4.heap.objs.size]) ht.typeIs (PyProof.Rows.slot_tuple_getitem.lookup) ?_ (by with_unfolding_all rfl)
    refine getItem_tuple_rev ht (Heap.IsSliceOf.new _ vl vu vs) pl pu ps ?_ (by rw [List.size_toArray]; omega)
    refine ⟨.ref _, _, I5.laid (t' := s4.toks) (o := .tup xs.reverse) (fun b ob q => Heap.get?_push_of_some _ q) (Nat.le_refl _) ?_, rfl, q _ (I5.hok.fresh (Nat.le_refl _))⟩
    exact ⟨by rw [List.length_reverse]; exact hz, _, r.reverse, _, Heap.get?_push_size _ rfl, rfl, 0, rfl⟩
/-- a op1 b op2 c op3 e, as a value -/
def tChain3 (r r' r'' : R2) (ta tb tc td : TE) : TE := fun σ H Q => ta σ H fun x H1 => tb σ H1 fun y H2 => r x y H2 fun z H3 => ∃ k, z = .bl k ∧
  (if k = true then tc σ H3 fun w' H4 => r' y w' H4 fun z' H5 => ∃ k', z' = .bl k' ∧ (if k' = true then td σ H5 fun v' H6 => r'' w' v' H6 Q else Q (.bl false) H5) else Q (.bl false) H3)
theorem pe_chain3 {a b c d : Expr} {ta tb tc td : TE} {pos : Pos} {op op' op'' : CmpOp} {r r' r'' : R2} (ho : OpR X (compareOp op) r) (ho' : OpR X (compareOp op') r') (ho'' : OpR X (compareOp op'') r'') (ha : PE X a ta) (hb : PE X b tb) (hc : PE X c tc) (hd : PE X d td)
    (hm : lastMarks [op, op', op''] [b, c, d] = false := by with_unfolding_all rfl) : PE X (.Compare a [op, op', op''] [b, c, d] pos) (tChain3 r r' r'' ta tb tc td) := by
  refine ⟨fun pins s σ H Q I h => ?_⟩
  refine Compare_chain (thn (ha.run pins s σ H _ I h) fun v s1 ⟨x, H1, I1, r1, q1⟩ => chain_link (thn (hb.run pins s1 σ H1 _ I1 q1) fun u s2 ⟨y, H2, I2, r2, q2⟩ =>
    thn (ho pins s2 σ H2 x y v u _ I2 r1 r2 q2) fun d s3 ⟨z, H3, I3, r3, k, e, q3⟩ => ?_)) hm
  subst e
  cases r3
  refine wpAny_truthy_bool ?_
  cases k with
  | false => exact ite_ff ⟨.bl false, H3, I3, rfl, q3⟩
  | true =>
    refine ite_tt (chain_link (thn (hc.run pins s3 σ H3 _ I3 q3) fun w' s4 ⟨z', H4, I4, r4, q4⟩ => thn (ho' pins s4 σ H4 y z' u w' _ I4 r2 r4 q4) fun d' s5 ⟨z5, H5, I5, r5, k', e', q5⟩ => ?_))
    subst e'
    cases r5
    refine wpAny_truthy_bool ?_
    cases k' with
    | false => exact ite_ff ⟨.bl false, H5, I5, rfl, q5⟩
    | true => exact ite_tt (chain_last (thn (hd.run pins s5 σ H5 _ I5 q5) fun w6 s6 ⟨z6, H6, I6, r6, q6⟩ => ho'' pins s6 σ H6 z' z6 w' w6 Q I6 r4 r6 q6))
end
def eChain3 (f f' f'' : Mem → SV → SV → Option SV) (a b c d : SE) : SE := fun ρ M => (a ρ M).bind fun x => (b ρ x.2).bind fun y => (f y.2 x.1 y.1).bind fun z => match z with
  | .dat (.bool k) => if k = true then (c ρ y.2).bind fun w => (f' w.2 y.1 w.1).bind fun u => match u with
      | .dat (.bool k') => if k' = true then (d ρ w.2).bind fun v => (f'' v.2 w.1 v.1).bind fun t => some (t, v.2) else some (.dat (.bool false), w.2)
      | _ => none
    else some (.dat (.bool false), y.2)
  | _ => none
def dRev : PyData → Option PyData
  | .list ds => some (.list ds.reverse)
  | .tuple ds => some (.tuple ds.reverse)
  | _ => none
section
variable {K : PySem.W.Frag}
theorem us_rev : UnS K (rRevA K) (lift1 dRev) := us_lift (by
  intro x z e G H v sm dx Q q
  cases dx <;> first | cases e | skip
  · rename_i a xs ds hs ha
    refine .inl ⟨a, xs, rfl, sm.seq hs, fun p hp => ?_⟩
    exact q _ _ _ (.new hp) (.lst (SqL.of upd_same) (ha.reverse.mono (same_upd (none_of_same sm hp))))
  · rename_i a xs ds hs ha
    refine .inr ⟨a, xs, rfl, same_sqT sm hs, fun p hp => ?_⟩
    exact q _ _ _ (.new hp) (.tup (SqT.of upd_same) (ha.reverse.mono (same_upd (none_of_same sm hp)))))
theorem ev_rev {ta : TE} {a : SE} (ha : EvS K ta a) : EvS K (tUn (rRevA K) ta) (eUn (lift1 dRev) a) := ev_un ha us_rev
theorem ev_chain3 {ta tb tc td : TE} {a b c d : SE} {r r' r'' : R2} {f f' f'' : Mem → SV → SV → Option SV} (ha : EvS K ta a) (hb : EvS K tb b) (hc : EvS K tc c) (hd : EvS K td d) (ho : OpS K r f) (ho' : OpS K r' f') (ho'' : OpS K r'' f'') : EvS K (tChain3 r r' r'' ta tb tc td) (eChain3 f f' f'' a b c d) := by
  intro ρ M z M' h F π G H σ R S Q q
  unfold eChain3 at h
  obtain ⟨⟨x, M1⟩, h1, h⟩ := Option.bind_eq_some_iff.mp h
  obtain ⟨⟨y, M2⟩, h2, h⟩ := Option.bind_eq_some_iff.mp h
  obtain ⟨z', h3, h⟩ := Option.bind_eq_some_iff.mp h
  refine ha ρ M x M1 h1 F π G H σ R S _ fun π1 G1 H1 v1 g1 R1 s1 => ?_
  refine hb ρ M1 y M2 h2 F π1 G1 H1 σ R1 (S.gr g1) _ fun π2 G2 H2 v2 g2 R2 s2 => ?_
  refine ho M2 x y z' h3 F π2 G2 H2 v1 v2 R2 (s1.gr g2) s2 _ fun G3 H3 u al s3 => ?_
  have g3 := (g1.trans g2).trans (Gr.of (R2.alSame al))
  have R3 := R2.al al
  cases s3 with
  | cel _ => cases h
  | dat hd3 =>
    cases hd3 with
    | bl i =>
      refine ⟨i, rfl, ?_⟩
      cases i with
      | false =>
        rw [if_neg Bool.false_ne_true]
        cases h
        exact q π2 G3 H3 _ g3 R3 (.dat (.bl false))
      | true =>
        rw [if_pos rfl]
        dsimp only at h
        rw [if_pos rfl] at h
        obtain ⟨⟨w, M3⟩, h4, h⟩ := Option.bind_eq_some_iff.mp h
        obtain ⟨u', h5, h⟩ := Option.bind_eq_some_iff.mp h
        refine hc ρ M2 w M3 h4 F π2 G3 H3 σ R3 (S.gr g3) _ fun π4 G4 H4 v4 g4 R4 s4 => ?_
        refine ho' M3 y w u' h5 F π4 G4 H4 v2 v4 R4 ((s2.gr (Gr.of (R2.alSame al))).gr g4) s4 _ fun G5 H5 u al5 s5 => ?_
        have g5 := (g3.trans g4).trans (Gr.of (R4.alSame al5))
        have R5 := R4.al al5
        cases s5 with
        | cel _ => cases h
        | dat hd5 =>
          cases hd5 with
          | bl i =>
            refine ⟨i, rfl, ?_⟩
            cases i with
            | false =>
              rw [if_neg Bool.false_ne_true]
              cases h
              exact q π4 G5 H5 _ g5 R5 (.dat (.bl false))
            | true =>
              rw [if_pos rfl]
              dsimp only at h
              rw [if_pos rfl] at h
              obtain ⟨⟨v, M4⟩, h6, h⟩ := Option.bind_eq_some_iff.mp h
              obtain ⟨t, h7, h⟩ := Option.bind_eq_some_iff.mp h
              cases h
              refine hd ρ M3 v M4 h6 F π4 G5 H5 σ R5 (S.gr g5) _ fun π6 G6 H6 v6 g6 R6 s6 => ?_
              exact ho'' M4 w v _ h7 F π6 G6 H6 v4 v6 R6 ((s4.gr (Gr.of (R4.alSame al5))).gr g6) s6 Q fun G7 H7 u al7 s7 => q π6 G7 H7 u ((g5.trans g6).trans (.of (R6.alSame al7))) (R6.al al7) s7
          | _ => cases h
    | _ => cases h
end
end Sm

/-! SmV: how the plain functions are reckoned. -/
namespace Sm
open PySem L2

/-! ### steps -/
section
variable {ρ : Rho} {M M1 M2 M3 : Mem} {x y z : SV} {a b c : SE}
theorem eOp_eq {f : Mem → SV → SV → Option SV} (h1 : a ρ M = some (x, M1)) (h2 : b ρ M1 = some (y, M2)) (h3 : f M2 x y = some z) : eOp f a b ρ M = some (z, M2) := by
  simp only [eOp, h1, h2, h3, Option.bind_some]
theorem eUn_eq {f : Mem → SV → Option SV} (h1 : a ρ M = some (x, M1)) (h3 : f M1 x = some z) : eUn f a ρ M = some (z, M1) := by
  simp only [eUn, h1, h3, Option.bind_some]
theorem aNil_eq : aNil ρ M = some ([], M) := rfl
theorem aCons_eq {as : SA} {xs : List SV} (h1 : a ρ M = some (x, M1)) (h2 : as ρ M1 = some (xs, M2)) : aCons a as ρ M = some (x :: xs, M2) := by
  simp only [aCons, h1, h2, Option.bind_some]
theorem eCB_eq {f : Mem → List SV → Option SV} {as : SA} {xs : List SV} (h1 : as ρ M = some (xs, M1)) (h2 : f M1 xs = some z) : eCB f as ρ M = some (z, M1) := by
  simp only [eCB, h1, h2, Option.bind_some]
theorem eCall_eq {f : SF} {as : SA} {xs : List SV} {r : Option (SV × Mem)} (h1 : as ρ M = some (xs, M1)) (h2 : f xs M1 = r) : eCall f as ρ M = r := by
  simp only [eCall, h1, h2, Option.bind_some]
theorem eTup_eq {as : SA} {xs : List SV} {ds : List PyData} (h1 : as ρ M = some (xs, M1)) (h2 : dats xs = some ds) (h3 : ds.length ≤ 100000) : eTup as ρ M = some (.dat (.tuple ds), M1) := by
  simp only [eTup, h1, h2, Option.bind_some, h3, if_true]
theorem eLst_eq {as : SA} {xs : List SV} {ds : List PyData} (h1 : as ρ M = some (xs, M1)) (h2 : dats xs = some ds) (h3 : ds.length ≤ 100000) : eLst as ρ M = some (.dat (.list ds), M1) := by
  simp only [eLst, h1, h2, Option.bind_some, h3, if_true]
theorem eNew_eq {as : SA} {xs : List SV} (h1 : as ρ M = some (xs, M1)) (h3 : xs.length ≤ 100000) : eNew as ρ M = some (.cel M1.length, M1 ++ [some xs]) := by
  simp only [eNew, h1, Option.bind_some, h3, if_true]
theorem eIf_t {t : SB} {r : Option (SV × Mem)} (h1 : t ρ M = some (true, M1)) (h2 : a ρ M1 = r) : eIf t a b ρ M = r := by
  simp only [eIf, h1, Option.bind_some, h2, if_true]
theorem eIf_f {t : SB} {r : Option (SV × Mem)} (h1 : t ρ M = some (false, M1)) (h2 : b ρ M1 = r) : eIf t a b ρ M = r := by
  simp only [eIf, h1, Option.bind_some, h2, Bool.false_eq_true, if_false]
theorem bVal_eq {v : Bool} (h1 : a ρ M = some (.dat (.bool v), M1)) : bVal a ρ M = some (v, M1) := by
  simp only [bVal, h1, Option.bind_some]
theorem bNot_eq {t : SB} {v : Bool} (h1 : t ρ M = some (v, M1)) : bNot t ρ M = some (!v, M1) := by
  simp only [bNot, h1, Option.bind_some]
theorem bAnd_eq {t u : SB} {v w : Bool} (h1 : t ρ M = some (v, M1)) (h2 : v = true → u ρ M1 = some (w, M1)) : bAnd t u ρ M = some (v && w, M1) := by
  cases v with
  | true => simp only [bAnd, h1, Option.bind_some, if_true, h2 rfl, Bool.true_and]
  | false => simp only [bAnd, h1, Option.bind_some, Bool.false_eq_true, if_false, Bool.false_and]
theorem bOr_eq {t u : SB} {v w : Bool} (h1 : t ρ M = some (v, M1)) (h2 : v = false → u ρ M1 = some (w, M1)) : bOr t u ρ M = some (v || w, M1) := by
  cases v with
  | false => simp only [bOr, h1, Option.bind_some, Bool.false_eq_true, if_false, h2 rfl, Bool.false_or]
  | true => simp only [bOr, h1, Option.bind_some, if_true, Bool.true_or]
theorem eAnd_eq {v w : Bool} (h1 : a ρ M = some (.dat (.bool v), M1)) (h2 : v = true → b ρ M1 = some (.dat (.bool w), M1)) : eAnd a b ρ M = some (.dat (.bool (v && w)), M1) := by
  cases v with
  | true => simp only [eAnd, h1, Option.bind_some, if_true, h2 rfl, Bool.true_and]
  | false => simp only [eAnd, h1, Option.bind_some, Bool.false_eq_true, if_false, Bool.false_and]
theorem eOr_eq {v w : Bool} (h1 : a ρ M = some (.dat (.bool v), M1)) (h2 : v = false → b ρ M1 = some (.dat (.bool w), M1)) : eOr a b ρ M = some (.dat (.bool (v || w)), M1) := by
  cases v with
  | false => simp only [eOr, h1, Option.bind_some, Bool.false_eq_true, if_false, h2 rfl, Bool.false_or]
  | true => simp only [eOr, h1, Option.bind_some, if_true, Bool.true_or]
theorem eNot_eq {v : Bool} (h1 : a ρ M = some (.dat (.bool v), M1)) : eNot a ρ M = some (.dat (.bool (!v)), M1) := by
  simp only [eNot, h1, Option.bind_some]
theorem sSeq_nx {s u : SS} {ρ1 : Rho} {r : Option Ctl} (h1 : s ρ M = some (.nx ρ1 M1)) (h2 : u ρ1 M1 = r) : sSeq s u ρ M = r := by
  simp only [sSeq, h1, Option.bind_some, h2]
theorem sSeq_rt {s u : SS} {v : SV} (h1 : s ρ M = some (.rt v M1)) : sSeq s u ρ M = some (.rt v M1) := by
  simp only [sSeq, h1, Option.bind_some]
theorem sAsg_eq {g : SG} {ρ1 : Rho} (h1 : a ρ M = some (x, M1)) (h2 : g x ρ M1 = some (ρ1, M2)) : sAsg a g ρ M = some (.nx ρ1 M2) := by
  simp only [sAsg, h1, h2, Option.bind_some]
theorem sRet_eq (h1 : a ρ M = some (x, M1)) : sRet a ρ M = some (.rt x M1) := by
  simp only [sRet, h1, Option.bind_some]
theorem sIf_t {t : SB} {s u : SS} {r : Option Ctl} (h1 : t ρ M = some (true, M1)) (h2 : s ρ M1 = r) : sIf t s u ρ M = r := by
  simp only [sIf, h1, Option.bind_some, h2, if_true]
theorem sIf_f {t : SB} {s u : SS} {r : Option Ctl} (h1 : t ρ M = some (false, M1)) (h2 : u ρ M1 = r) : sIf t s u ρ M = r := by
  simp only [sIf, h1, Option.bind_some, h2, Bool.false_eq_true, if_false]
theorem sFor_eq {it : SI} {g : SG} {s : SS} {ds : List PyData} {r : Option Ctl} (h1 : it ρ M = some (ds, M1)) (h2 : loop g s ds ρ M1 = r) : sFor it g s ρ M = r := by
  simp only [sFor, h1, Option.bind_some, h2]
theorem sPar_eq {i j : Nat} {as : SA} {u v : SV} (h1 : as ρ M = some ([u, v], M1)) : sPar i j as ρ M = some (.nx ((ρ.set i (some u)).set j (some v)) M1) := by
  simp only [sPar, h1, Option.bind_some]
theorem loop_nx {g : SG} {s : SS} {d : PyData} {ds : List PyData} {ρ1 ρ2 : Rho} {r : Option Ctl} (h1 : g (.dat d) ρ M = some (ρ1, M1)) (h2 : s ρ1 M1 = some (.nx ρ2 M2)) (h3 : loop g s ds ρ2 M2 = r) : loop g s (d :: ds) ρ M = r := by
  simp only [loop, h1, Option.bind_some, h2, h3]
theorem whl_nx {t : SB} {s : SS} {n : Nat} {ρ2 : Rho} {r : Option Ctl} (h1 : t ρ M = some (true, M1)) (h2 : s ρ M1 = some (.nx ρ2 M2)) (h3 : whl t s n ρ2 M2 = r) : whl t s (n + 1) ρ M = r := by
  simp only [whl, h1, Option.bind_some, if_true, h2, h3]
theorem whl_end {t : SB} {s : SS} {n : Nat} (h1 : t ρ M = some (false, M1)) : whl t s (n + 1) ρ M = some (.nx ρ M1) := by
  simp only [whl, h1, Option.bind_some, Bool.false_eq_true, if_false]
theorem lcL_cons {g : SG} {el : SE} {d : PyData} {ds : List PyData} {ρ1 : Rho} {x : PyData} {xs : List PyData} (h1 : g (.dat d) ρ M = some (ρ1, M)) (h2 : el ρ1 M = some (.dat x, M1)) (h3 : lcL g bYes el ρ ds M1 = some (xs, M2)) : lcL g bYes el ρ (d :: ds) M = some (x :: xs, M2) := by
  simp only [lcL, h1, Option.bind_some, bYes, if_true, h2, h3]
theorem mkF_rt {n : Nat} {s : SS} {args : List SV} {d : PyData} (h : s (args.map some ++ List.replicate (n - args.length) none) M = some (.rt (.dat d) M1)) : mkF n s args M = some (.dat d, M1.take M.length) := by
  simp only [mkF, h, Option.bind_some, fin]
theorem mkF_rt0 {n : Nat} {s : SS} {args : List SV} {d : PyData} (h : s (args.map some ++ List.replicate (n - args.length) none) M = some (.rt (.dat d) M)) : mkF n s args M = some (.dat d, M) := by
  simp only [mkF, h, Option.bind_some, fin, List.take_length]
theorem mkF_rtL {n : Nat} {s : SS} {args : List SV} {d : PyData} (hl : M1.length = M.length) (h : s (args.map some ++ List.replicate (n - args.length) none) M = some (.rt (.dat d) M1)) : mkF n s args M = some (.dat d, M1) := by
  rw [mkF_rt h, ← hl, List.take_length]
theorem eLc_eq {it : SI} {g : SG} {tt : SB} {el : SE} {vs : List Nat} {ds out : List PyData} (h1 : it ρ M = some (ds, M1)) (h2 : ds.length ≤ 100000) (h3 : lcL g tt el (wipeR ρ vs) ds M1 = some (out, M2)) : eLc it g tt el vs ρ M = some (.dat (.list out), M2) := by
  simp only [eLc, h1, Option.bind_some, h2, if_true, h3]
theorem lcL_map {g : SG} {el : SE} {f : PyData → PyData} : ∀ (ds : List PyData), (∀ d ∈ ds, ∃ ρ1, g (.dat d) ρ M = some (ρ1, M) ∧ el ρ1 M = some (.dat (f d), M)) → lcL g bYes el ρ ds M = some (ds.map f, M)
  | [], _ => rfl
  | d :: ds, h => by
    obtain ⟨ρ1, e1, e2⟩ := h d List.mem_cons_self
    have ih := lcL_map ds (fun x hx => h x (List.mem_cons_of_mem _ hx))
    simp only [lcL, e1, Option.bind_some, bYes, if_true, e2, ih, List.map_cons]
theorem lcL_filter {g : SG} {tt : SB} {el : SE} {p : PyData → Bool} {f : PyData → PyData} : ∀ (ds : List PyData), (∀ d ∈ ds, ∃ ρ1, g (.dat d) ρ M = some (ρ1, M) ∧ tt ρ1 M = some (p d, M) ∧ (p d = true → el ρ1 M = some (.dat (f d), M))) → lcL g tt el ρ ds M = some ((ds.filter p).map f, M)
  | [], _ => rfl
  | d :: ds, h => by
    obtain ⟨ρ1, e1, e2, e3⟩ := h d List.mem_cons_self
    have ih := lcL_filter ds (fun x hx => h x (List.mem_cons_of_mem _ hx))
    cases hp : p d with
    | true => 
      rw [hp] at e2 e3
      simp only [lcL, e1, Option.bind_some, e2, if_true, e3 rfl, ih, List.filter_cons_of_pos hp, List.map_cons]
    | false =>
      rw [hp] at e2
      have hp' : ¬ (p d = true) := by rw [hp]; exact Bool.false_ne_true
      simp only [lcL, e1, Option.bind_some, e2, Bool.false_eq_true, if_false, ih, List.filter_cons_of_neg hp']
/-- a loop by what holds between the turns -/
theorem loop_inv {g : SG} {s : SS} (I : Nat → Rho → Mem → Prop) : ∀ (ds : List PyData) (n : Nat) (ρ : Rho) (M : Mem), I n ρ M →
    (∀ (i : Nat) (d : PyData) (ρ : Rho) (M : Mem), ds[i]? = some d → I (n + i) ρ M → ∃ ρ1 M1 ρ2 M2, g (.dat d) ρ M = some (ρ1, M1) ∧ s ρ1 M1 = some (.nx ρ2 M2) ∧ I (n + i + 1) ρ2 M2) →
    ∃ ρ' M', loop g s ds ρ M = some (.nx ρ' M') ∧ I (n + ds.length) ρ' M'
  | [], n, ρ, M, h, _ => ⟨ρ, M, rfl, h⟩
  | d :: ds, n, ρ, M, h, hs => by
    obtain ⟨ρ1, M1, ρ2, M2, e1, e2, h2⟩ := hs 0 d ρ M rfl h
    obtain ⟨ρ', M', e3, h3⟩ := loop_inv I ds (n + 1) ρ2 M2 h2 (fun i d' ρ M hd hI => by
      have := hs (i + 1) d' ρ M (by simpa using hd) (by rw [show n + (i + 1) = n + 1 + i by omega]; exact hI)
      rw [show n + 1 + i + 1 = n + (i + 1) + 1 by omega]
      exact this)
    refine ⟨ρ', M', loop_nx e1 e2 e3, ?_⟩
    rw [List.length_cons, show n + (ds.length + 1) = n + 1 + ds.length by omega]
    exact h3
theorem lcL_inv {g : SG} {el : SE} {ρ : Rho} (I : Nat → Mem → Prop) (P : PyData → Prop) : ∀ (ds : List PyData) (n : Nat) (M : Mem), I n M →
    (∀ (i : Nat) (d : PyData) (M : Mem), ds[i]? = some d → I (n + i) M → ∃ ρ1 x M1, g (.dat d) ρ M = some (ρ1, M) ∧ el ρ1 M = some (.dat x, M1) ∧ P x ∧ I (n + i + 1) M1) →
    ∃ out M', lcL g bYes el ρ ds M = some (out, M') ∧ out.length = ds.length ∧ (∀ x ∈ out, P x) ∧ I (n + ds.length) M'
  | [], n, M, h, _ => ⟨[], M, rfl, rfl, (fun _ z => nomatch z), h⟩
  | d :: ds, n, M, h, hs => by
    obtain ⟨ρ1, x, M1, e1, e2, hP, h2⟩ := hs 0 d M rfl h
    obtain ⟨out, M', e3, hl, hO, h3⟩ := lcL_inv I P ds (n + 1) M1 h2 (fun i d' M hd hI => by
      have := hs (i + 1) d' M (by simpa using hd) (by rw [show n + (i + 1) = n + 1 + i by omega]; exact hI)
      rw [show n + 1 + i + 1 = n + (i + 1) + 1 by omega]
      exact this)
    refine ⟨x :: out, M', lcL_cons e1 e2 e3, by simp [hl], fun y hy => ?_, ?_⟩
    · rcases List.mem_cons.mp hy with q | q
      · rw [q]; exact hP
      · exact hO y q
    · rw [List.length_cons, show n + (ds.length + 1) = n + 1 + ds.length by omega]
      exact h3
theorem sApp_eq {o : SE} {i : Nat} {d : PyData} {xs0 xs : List SV} (h1 : o ρ M = some (.cel i, M1)) (h2 : a ρ M1 = some (.dat d, M2)) (h3 : M1[i]? = some (some xs0)) (h4 : M2[i]? = some (some xs)) (h5 : xs.length < 100000) : sApp o a ρ M = some (.nx ρ (M2.set i (some (xs ++ [.dat d])))) := by
  simp only [sApp, h1, h2, Option.bind_some, h3, h4, h5, if_true]
theorem sFrz_eq {i j : Nat} {s : SS} {ρ1 : Rho} {xs : List SV} {ds : List PyData} (h1 : s ρ M = some (.nx ρ1 M1)) (h2 : ρ1[i]? = some (some (.cel j))) (h3 : M1[j]? = some (some xs)) (h4 : dats xs = some ds) : sFrz i s ρ M = some (.nx (ρ1.set i (some (.dat (.list ds)))) (M1.set j none)) := by
  simp only [sFrz, h1, Option.bind_some, h2, h3, h4]
theorem dats_map : ∀ ds : List PyData, dats (ds.map SV.dat) = some ds
  | [] => rfl
  | d :: ds => by simp only [List.map_cons, dats, dats_map ds, Option.bind_some]
end
/-! ### leaves -/
section
variable {M : Mem} {i j : Int}
theorem l_add : lift2 dAdd M (.dat (.int i)) (.dat (.int j)) = some (.dat (.int (i + j))) := rfl
theorem l_sub : lift2 dSub M (.dat (.int i)) (.dat (.int j)) = some (.dat (.int (i - j))) := rfl
theorem l_lt : lift2 dLt M (.dat (.int i)) (.dat (.int j)) = some (.dat (.bool (decide (i < j)))) := rfl
theorem l_le : lift2 dLe M (.dat (.int i)) (.dat (.int j)) = some (.dat (.bool (decide (i ≤ j)))) := rfl
theorem l_gt : lift2 dGt M (.dat (.int i)) (.dat (.int j)) = some (.dat (.bool (decide (j < i)))) := rfl
theorem l_ge : lift2 dGe M (.dat (.int i)) (.dat (.int j)) = some (.dat (.bool (decide (j ≤ i)))) := rfl
theorem l_eq : lift2 dEq M (.dat (.int i)) (.dat (.int j)) = some (.dat (.bool (i == j))) := rfl
theorem l_ne : lift2 dNe M (.dat (.int i)) (.dat (.int j)) = some (.dat (.bool (!(i == j)))) := rfl
theorem l_eqS {x y : Str} : lift2 dEq M (.dat (.str x)) (.dat (.str y)) = some (.dat (.bool (x == y))) := rfl
theorem l_neS {x y : Str} : lift2 dNe M (.dat (.str x)) (.dat (.str y)) = some (.dat (.bool (!(x == y)))) := rfl
theorem l_mod (h : 0 < j) : lift2 dMod M (.dat (.int i)) (.dat (.int j)) = some (.dat (.int (i % j))) := by
  simp [lift2, dMod, dI, h]
theorem l_div (h : 0 < j) (h2 : j < 2 ^ 64) : lift2 dDiv M (.dat (.int i)) (.dat (.int j)) = some (.dat (.int (i / j))) := by
  have h2' : j < 18446744073709551616 := h2
  simp [lift2, dDiv, dI, h, h2']
theorem l_pow {n : Nat} (h : n ≤ 64) (h1 : -(2 ^ 64) < i) (h2 : i < 2 ^ 64) : lift2 dPow M (.dat (.int i)) (.dat (.int (n : Int))) = some (.dat (.int (i ^ n))) := by
  have h1' : -18446744073709551616 < i := h1
  have h2' : i < 18446744073709551616 := h2
  have h3 : (n : Int) ≤ 64 := by omega
  simp [lift2, dPow, dI, h1', h2', h3]
theorem l_mul (h : (-(2 ^ 64) < i ∧ i < 2 ^ 64) ∨ (-(2 ^ 64) < j ∧ j < 2 ^ 64)) : lift2 dMul M (.dat (.int i)) (.dat (.int j)) = some (.dat (.int (i * j))) := by
  have : mulOk i j = true := by
    unfold mulOk
    simp only [Bool.or_eq_true, Bool.and_eq_true, decide_eq_true_eq]
    exact h
  simp [lift2, dMul, this]
theorem iR1_eq {ρ : Rho} {M M1 : Mem} {as : SA} (h : as ρ M = some ([.dat (.int j)], M1)) (h1 : -(2 ^ 62) ≤ j) (h2 : j < 2 ^ 62) : iR1 as ρ M = some (rangeD 0 j, M1) := by
  unfold iR1
  rw [h]
  show (if -(2 ^ 62) ≤ j ∧ j < 2 ^ 62 then some (rangeD 0 j, M1) else none) = _
  rw [if_pos ⟨h1, h2⟩]
theorem iR2_eq {ρ : Rho} {M M1 : Mem} {as : SA} (h : as ρ M = some ([.dat (.int i), .dat (.int j)], M1)) (h1 : -(2 ^ 62) ≤ i) (h2 : i < 2 ^ 62) (h3 : -(2 ^ 62) ≤ j) (h4 : j < 2 ^ 62) : iR2 as ρ M = some (rangeD i j, M1) := by
  unfold iR2
  rw [h]
  show (if (-(2 ^ 62) ≤ i ∧ i < 2 ^ 62) ∧ -(2 ^ 62) ≤ j ∧ j < 2 ^ 62 then some (rangeD i j, M1) else none) = _
  rw [if_pos ⟨⟨h1, h2⟩, h3, h4⟩]
theorem eLr2_eq {ρ : Rho} {M M1 M2 : Mem} {a b : SE} (ha : a ρ M = some (.dat (.int i), M1)) (hb : b ρ M1 = some (.dat (.int j), M2)) (h1 : -(2 ^ 20) ≤ i) (h2 : i < 2 ^ 20) (h3 : -(2 ^ 20) ≤ j) (h4 : j < 2 ^ 20) : eLr2 a b ρ M = some (.dat (.list (rangeD i j)), M2) := by
  simp only [eLr2, ha, hb, Option.bind_some]
  rw [if_pos ⟨⟨h1, h2⟩, h3, h4⟩]
theorem iDat_l {ρ : Rho} {M M1 : Mem} {a : SE} {ds : List PyData} (h : a ρ M = some (.dat (.list ds), M1)) : iDat a ρ M = some (ds, M1) := by
  simp only [iDat, h, Option.bind_some]
theorem iDat_t {ρ : Rho} {M M1 : Mem} {a : SE} {ds : List PyData} (h : a ρ M = some (.dat (.tuple ds), M1)) : iDat a ρ M = some (ds, M1) := by
  simp only [iDat, h, Option.bind_some]
theorem l_isi {T : String} {d : PyData} {b : Bool} (h : kitB (tyD d) T = some b) : fIsi T M (.dat d) = some (.dat (.bool b)) := by
  simp only [fIsi, lift1, h, Option.bind_some]
theorem l_repr {d : PyData} (h : (d.showable && decide (d.depth ≤ 64) && decide (wt d ≤ 1000000) && (!d.hasDict || !hasList d)) = true) : lift1 dRepr M (.dat d) = some (.dat (.str d.shown)) := by
  simp only [lift1, dRepr, h, if_true, Option.bind_some]
theorem ki_ii : kitB "int" "int" = some true := by decide +kernel
theorem ki_ib : kitB "int" "bool" = some false := by decide +kernel
theorem ki_bi : kitB "bool" "int" = some true := by decide +kernel
theorem ki_bb : kitB "bool" "bool" = some true := by decide +kernel
theorem ki_ni : kitB "NoneType" "int" = some false := by decide +kernel
theorem ki_si : kitB "str" "int" = some false := by decide +kernel
theorem ki_li : kitB "list" "int" = some false := by decide +kernel
theorem ki_ti : kitB "tuple" "int" = some false := by decide +kernel
theorem ki_di : kitB "dict" "int" = some false := by decide +kernel
theorem ki_it : kitB "int" "tuple" = some false := by decide +kernel
theorem ki_bt : kitB "bool" "tuple" = some false := by decide +kernel
theorem ki_nt : kitB "NoneType" "tuple" = some false := by decide +kernel
theorem ki_st : kitB "str" "tuple" = some false := by decide +kernel
theorem ki_lt : kitB "list" "tuple" = some false := by decide +kernel
theorem ki_tt : kitB "tuple" "tuple" = some true := by decide +kernel
theorem ki_dt : kitB "dict" "tuple" = some false := by decide +kernel
theorem isI (d : PyData) : ∃ b, kitB (tyD d) "int" = some b ∧ (b = true ↔ (∃ i, d = .int i) ∨ ∃ b, d = .bool b) := by
  cases d <;> simp only [tyD, ki_ii, ki_bi, ki_ni, ki_si, ki_li, ki_ti, ki_di, Option.some.injEq] <;> exact ⟨_, rfl, by simp⟩
theorem isT (d : PyData) : ∃ b, kitB (tyD d) "tuple" = some b ∧ (b = true ↔ ∃ ds, d = .tuple ds) := by
  cases d <;> simp only [tyD, ki_it, ki_bt, ki_nt, ki_st, ki_lt, ki_tt, ki_dt, Option.some.injEq] <;> exact ⟨_, rfl, by simp⟩
theorem atI_in {α : Type} {xs : List α} {i : Int} {k : Nat} {x : α} (hi : i = (k : Int)) (hx : xs[k]? = some x) : atI xs i = some x := by
  obtain ⟨hk, _⟩ := List.getElem?_eq_some_iff.mp hx
  subst hi
  unfold atI ixN
  have h1 : (0 : Int) ≤ (k : Int) := by omega
  have h2 : (k : Int) < (xs.length : Int) := by omega
  rw [if_pos h1, if_pos h2]
  simpa using hx
theorem ixN_in {n k : Nat} (h : k < n) : ixN n (k : Int) = some k := by
  unfold ixN
  have h1 : (0 : Int) ≤ (k : Int) := by omega
  have h2 : (k : Int) < (n : Int) := by omega
  rw [if_pos h1, if_pos h2]; simp
theorem l_eqNil {M : Mem} : ∀ xs : List PyData, lift2 dEq M (.dat (.list xs)) (.dat (.list [])) = some (.dat (.bool xs.isEmpty))
  | [] => by
    have h : (SeqAt.shaped (PyData.list []) && SeqAt.shaped (PyData.list [])) = true := by decide
    simp only [lift2, dEq, h, if_true, Option.bind_some]
    rfl
  | x :: t => by
    have h1 : PyData.eqv (.list (x :: t)) (.list []) = false := by simp [PyData.eqv, PyData.eqvAll]
    simp only [lift2, dEq]
    split
    · simp [h1]
    · simp [lenNe]
theorem l_neg : lift1 dNeg M (.dat (.int i)) = some (.dat (.int (-i))) := rfl
end
end Sm

/-! SmW: more steps, for a way that goes by itself. -/
namespace Sm
open PySem L2
section
variable {ρ : Rho} {M M1 M2 M3 : Mem} {x y z : SV} {a b c : SE}
theorem eVar_eq {i : Nat} (h : ρ[i]? = some (some x)) : eVar i ρ M = some (x, M) := by
  simp only [eVar, h]
theorem eC_eq {d : PyData} : eC d ρ M = some (.dat d, M) := rfl
theorem eC_e {d : PyData} (h : SV.dat d = x) : eC d ρ M = some (x, M) := by rw [← h]; rfl
theorem eD0_eq : eD0 ρ M = some (.dat (.dict []), M) := rfl
theorem eD1_eq {k : Str} {d : PyData} (h : a ρ M = some (.dat d, M1)) : eD1 k a ρ M = some (.dat (.dict [(.str k, d)]), M1) := by
  simp only [eD1, h, Option.bind_some]
theorem oNone_eq : oNone ρ M = some (none, M) := rfl
theorem oSome_eq {i : Int} (h : a ρ M = some (.dat (.int i), M1)) : oSome a ρ M = some (some i, M1) := by
  simp only [oSome, h, Option.bind_some]
theorem eSl_eq {f : Mem → SV → Option Int → Option Int → Option SV} {l u : SO} {lo hi : Option Int} (h1 : a ρ M = some (x, M1)) (h2 : l ρ M1 = some (lo, M2)) (h3 : u ρ M2 = some (hi, M3)) (h4 : f M3 x lo hi = some z) : eSl f a l u ρ M = some (z, M3) := by
  simp only [eSl, h1, h2, h3, h4, Option.bind_some]
theorem ble_le {n m : Nat} (h : Nat.ble n m = true) : n ≤ m := Nat.le_of_ble_eq_true h
theorem eTup_e {as : SA} {xs : List SV} {ds : List PyData} (h1 : as ρ M = some (xs, M1)) (h2 : dats xs = some ds) (h3 : Nat.ble ds.length 100000 = true) : eTup as ρ M = some (.dat (.tuple ds), M1) := eTup_eq h1 h2 (ble_le h3)
theorem eLst_e {as : SA} {xs : List SV} {ds : List PyData} (h1 : as ρ M = some (xs, M1)) (h2 : dats xs = some ds) (h3 : Nat.ble ds.length 100000 = true) : eLst as ρ M = some (.dat (.list ds), M1) := eLst_eq h1 h2 (ble_le h3)
theorem ite_T {α : Type} {v : Bool} {p q r : α} (h : v = true) (h2 : p = r) : (if v = true then p else q) = r := by rw [if_pos h]; exact h2
theorem ite_F {α : Type} {v : Bool} {p q r : α} (h : v = false) (h2 : q = r) : (if v = true then p else q) = r := by rw [if_neg (by rw [h]; exact Bool.false_ne_true)]; exact h2
theorem bVal_e {v : Bool} (h1 : a ρ M = some (x, M1)) (h2 : x = .dat (.bool v)) : bVal a ρ M = some (v, M1) := by
  subst h2; exact bVal_eq h1
theorem bOr_e {t u : SB} {v : Bool} {r : Option (Bool × Mem)} (h1 : t ρ M = some (v, M1)) (h2 : (if v = true then some (true, M1) else u ρ M1) = r) : bOr t u ρ M = r := by
  simp only [bOr, h1, Option.bind_some]; exact h2
theorem bAnd_e {t u : SB} {v : Bool} {r : Option (Bool × Mem)} (h1 : t ρ M = some (v, M1)) (h2 : (if v = true then u ρ M1 else some (false, M1)) = r) : bAnd t u ρ M = r := by
  simp only [bAnd, h1, Option.bind_some]; exact h2
theorem or_gen {v w : Bool} {s : Option (Bool × Mem)} (h : s = some (w, M1)) : (if v = true then some (true, M1) else s) = some (v || w, M1) := by
  cases v with
  | true => simp
  | false => simp [h]
theorem and_gen {v w : Bool} {s : Option (Bool × Mem)} (h : s = some (w, M1)) : (if v = true then s else some (false, M1)) = some (v && w, M1) := by
  cases v with
  | false => simp
  | true => simp [h]
theorem eOr_e {v : Bool} {r : Option (SV × Mem)} (h1 : a ρ M = some (.dat (.bool v), M1)) (h2 : (if v = true then some (.dat (.bool true), M1) else b ρ M1) = r) : eOr a b ρ M = r := by
  simp only [eOr, h1, Option.bind_some]; exact h2
theorem eAnd_e {v : Bool} {r : Option (SV × Mem)} (h1 : a ρ M = some (.dat (.bool v), M1)) (h2 : (if v = true then b ρ M1 else some (.dat (.bool false), M1)) = r) : eAnd a b ρ M = r := by
  simp only [eAnd, h1, Option.bind_some]; exact h2
theorem eor_gen {v w : Bool} {s : Option (SV × Mem)} (h : s = some (.dat (.bool w), M1)) : (if v = true then some (.dat (.bool true), M1) else s) = some (.dat (.bool (v || w)), M1) := by
  cases v with
  | true => simp
  | false => simp [h]
theorem eand_gen {v w : Bool} {s : Option (SV × Mem)} (h : s = some (.dat (.bool w), M1)) : (if v = true then s else some (.dat (.bool false), M1)) = some (.dat (.bool (v && w)), M1) := by
  cases v with
  | false => simp
  | true => simp [h]
theorem eIf_e {t : SB} {v : Bool} {r : Option (SV × Mem)} (h1 : t ρ M = some (v, M1)) (h2 : (if v = true then a ρ M1 else b ρ M1) = r) : eIf t a b ρ M = r := by
  simp only [eIf, h1, Option.bind_some]; exact h2
theorem sIf_e {t : SB} {v : Bool} {s u : SS} {r : Option Ctl} (h1 : t ρ M = some (v, M1)) (h2 : (if v = true then s ρ M1 else u ρ M1) = r) : sIf t s u ρ M = r := by
  simp only [sIf, h1, Option.bind_some]; exact h2
theorem bTru_b {v : Bool} (h1 : a ρ M = some (.dat (.bool v), M1)) : bTru a ρ M = some (v, M1) := by
  simp only [bTru, h1, Option.bind_some]
theorem eChain_e {f f' : Mem → SV → SV → Option SV} {w : SV} {k k' : Bool} (h1 : a ρ M = some (x, M1)) (h2 : b ρ M1 = some (y, M2)) (h3 : f M2 x y = some (.dat (.bool k))) (h4 : c ρ M2 = some (w, M2)) (h5 : f' M2 y w = some (.dat (.bool k'))) : eChain f f' a b c ρ M = some (.dat (.bool (k && k')), M2) := by
  cases k <;> simp [eChain, h1, h2, h3, h4, h5]
theorem eChain3_e {f f' f'' : Mem → SV → SV → Option SV} {e : SE} {w u : SV} {k k' k'' : Bool} (h1 : a ρ M = some (x, M1)) (h2 : b ρ M1 = some (y, M2)) (h3 : f M2 x y = some (.dat (.bool k))) (h4 : c ρ M2 = some (w, M2)) (h5 : f' M2 y w = some (.dat (.bool k'))) (h6 : e ρ M2 = some (u, M2)) (h7 : f'' M2 w u = some (.dat (.bool k''))) :
    eChain3 f f' f'' a b c e ρ M = some (.dat (.bool (k && (k' && k''))), M2) := by
  cases k <;> cases k' <;> simp [eChain3, h1, h2, h3, h4, h5, h6, h7]
def seqK (c : Ctl) (u : SS) : Option Ctl := match c with
  | .nx ρ' M' => u ρ' M'
  | c => some c
theorem sSeq_e {s u : SS} {k : Ctl} {r : Option Ctl} (h1 : s ρ M = some k) (h2 : seqK k u = r) : sSeq s u ρ M = r := by
  simp only [sSeq, h1, Option.bind_some]; exact h2
theorem seqK_nx {u : SS} {r : Option Ctl} (h : u ρ M = r) : seqK (.nx ρ M) u = r := h
theorem seqK_rt {u : SS} {v : SV} : seqK (.rt v M) u = some (.rt v M) := rfl
theorem sNext_eq : sNext ρ M = some (.nx ρ M) := rfl
theorem gNm_eq {i : Nat} : gNm i x ρ M = some (ρ.set i (some x), M) := rfl
theorem gTp_eq {is : List Nat} {ds : List PyData} (h : (ds.length == is.length) = true) : gTp is (.dat (.tuple ds)) ρ M = some (setAll is ds ρ, M) := by
  have : ds.length = is.length := eq_of_beq h
  simp only [gTp, this, if_true]
theorem gNm_e {i : Nat} {ρ' : Rho} (h : ρ.set i (some x) = ρ') : gNm i x ρ M = some (ρ', M) := by rw [← h]; rfl
theorem gTp_e {is : List Nat} {ds : List PyData} {ρ' : Rho} (h : (ds.length == is.length) = true) (h2 : setAll is ds ρ = ρ') : gTp is (.dat (.tuple ds)) ρ M = some (ρ', M) := by
  rw [← h2]; exact gTp_eq h
theorem one_eq {f : Mem → SV → Option SV} (h : f M x = some z) : one f M [x] = some z := h
theorem l_ixL {ds : List PyData} {i : Int} {d : PyData} (h : atI ds i = some d) : fIx M (.dat (.list ds)) (.dat (.int i)) = some (.dat d) := by
  simp only [fIx, h, Option.bind_some]
theorem l_ixT {ds : List PyData} {i : Int} {d : PyData} (h : atI ds i = some d) : fIx M (.dat (.tuple ds)) (.dat (.int i)) = some (.dat d) := by
  simp only [fIx, h, Option.bind_some]
theorem l_slL {ds : List PyData} {lo hi : Option Int} : fSl M (.dat (.list ds)) lo hi = some (.dat (.list (cutD ds lo hi))) := rfl
theorem l_slT {ds : List PyData} {lo hi : Option Int} : fSl M (.dat (.tuple ds)) lo hi = some (.dat (.tuple (cutD ds lo hi))) := rfl
theorem l_lenL {ds : List PyData} : fLen M (.dat (.list ds)) = some (.dat (.int (ds.length : Int))) := rfl
theorem l_lenT {ds : List PyData} : fLen M (.dat (.tuple ds)) = some (.dat (.int (ds.length : Int))) := rfl
theorem l_addT {xs ys : List PyData} (h : Nat.ble (xs.length + ys.length) 100000 = true) : lift2 dAdd M (.dat (.tuple xs)) (.dat (.tuple ys)) = some (.dat (.tuple (xs ++ ys))) := by
  simp only [lift2, dAdd, ble_le h, if_true, Option.bind_some]
theorem l_addL {xs ys : List PyData} (h : Nat.ble (xs.length + ys.length) 100000 = true) : lift2 dAdd M (.dat (.list xs)) (.dat (.list ys)) = some (.dat (.list (xs ++ ys))) := by
  simp only [lift2, dAdd, ble_le h, if_true, Option.bind_some]
theorem mkF_e {n : Nat} {s : SS} {args : List SV} {d : PyData} (h : s (args.map some ++ List.replicate (n - args.length) none) M = some (.rt (.dat d) M1)) (hl : M1.length = M.length) : mkF n s args M = some (.dat d, M1) := mkF_rtL hl h
theorem mkF_c {n : Nat} {s : SS} {args : List SV} {i : Nat} (h : s (args.map some ++ List.replicate (n - args.length) none) M = some (.rt (.cel i) M1)) : mkF n s args M = some (.cel i, M1) := by
  simp only [mkF, h, Option.bind_some, fin]
theorem pi_true {x : SV} (h : x = .dat (.bool true)) : x = .dat (.bool true) := h
theorem it_tt {T : String} {ds : List PyData} {b : Bool} (h : kitB "tuple" T = some b) : fIsi T M (.dat (.tuple ds)) = some (.dat (.bool b)) := l_isi h
theorem l_neSS {x : Str} : lift2 dNe M (.dat (.str x)) (.dat (.str x)) = some (.dat (.bool false)) := by
  rw [l_neS, beq_self_eq_true]; rfl
theorem l_eqSS {x : Str} : lift2 dEq M (.dat (.str x)) (.dat (.str x)) = some (.dat (.bool true)) := by
  rw [l_eqS, beq_self_eq_true]
theorem l_neBS {v : Bool} : lift2 dNe M (.dat (.bool v)) (.dat (.bool v)) = some (.dat (.bool false)) := by cases v <;> rfl
theorem l_eqBS {v : Bool} : lift2 dEq M (.dat (.bool v)) (.dat (.bool v)) = some (.dat (.bool true)) := by cases v <;> rfl
theorem l_neB {v w : Bool} : lift2 dNe M (.dat (.bool v)) (.dat (.bool w)) = some (.dat (.bool (!(v == w)))) := by cases v <;> cases w <;> rfl
theorem l_eqB {v w : Bool} : lift2 dEq M (.dat (.bool v)) (.dat (.bool w)) = some (.dat (.bool (v == w))) := by cases v <;> cases w <;> rfl
theorem sIx0 (n d : Nat) : HT.sIx n d none = d := rfl
theorem cut_take (ds : List PyData) (n : Nat) : cutD ds none (some (n : Int)) = ds.take n := by
  unfold cutD
  rw [sIx0, HT.sIx_nat, List.drop_zero, Nat.sub_zero]
  by_cases h : n ≤ ds.length
  · rw [Nat.min_eq_left h]
  · rw [Nat.min_eq_right (by omega), List.take_of_length_le (Nat.le_refl _), List.take_of_length_le (by omega)]
theorem cut_drop (ds : List PyData) (n : Nat) : cutD ds (some (n : Int)) none = ds.drop n := by
  unfold cutD
  rw [sIx0, HT.sIx_nat]
  by_cases h : n ≤ ds.length
  · rw [Nat.min_eq_left h, List.take_of_length_le (by rw [List.length_drop]; exact Nat.le_refl _)]
  · rw [Nat.min_eq_right (by omega), List.drop_of_length_le (Nat.le_refl _), List.drop_of_length_le (by omega)]
    simp
/-! kinds -/
def kInt : PyData → Bool
  | .int _ => true
  | .bool _ => true
  | _ => false
def kBool : PyData → Bool
  | .bool _ => true
  | _ => false
def kTup : PyData → Bool
  | .tuple _ => true
  | _ => false
def kNum : PyData → Bool
  | .int _ => true
  | _ => false
theorem ki_nb : kitB "NoneType" "bool" = some false := by decide +kernel
theorem ki_sb : kitB "str" "bool" = some false := by decide +kernel
theorem ki_lb : kitB "list" "bool" = some false := by decide +kernel
theorem ki_tb : kitB "tuple" "bool" = some false := by decide +kernel
theorem ki_db : kitB "dict" "bool" = some false := by decide +kernel
theorem isi_int (d : PyData) : fIsi "int" M (.dat d) = some (.dat (.bool (kInt d))) := by
  cases d <;> simp only [fIsi, lift1, tyD, ki_ii, ki_bi, ki_ni, ki_si, ki_li, ki_ti, ki_di, Option.bind_some, kInt]
theorem isi_bool (d : PyData) : fIsi "bool" M (.dat d) = some (.dat (.bool (kBool d))) := by
  cases d <;> simp only [fIsi, lift1, tyD, ki_ib, ki_bb, ki_nb, ki_sb, ki_lb, ki_tb, ki_db, Option.bind_some, kBool]
theorem isi_tup (d : PyData) : fIsi "tuple" M (.dat d) = some (.dat (.bool (kTup d))) := by
  cases d <;> simp only [fIsi, lift1, tyD, ki_it, ki_bt, ki_nt, ki_st, ki_lt, ki_tt, ki_dt, Option.bind_some, kTup]
theorem knum (d : PyData) : (kInt d && !kBool d) = kNum d := by cases d <;> rfl
end
end Sm

/-! SmZ: list(zip(a, b)), tuple(zip(a, b)), of lists and tuples. -/
namespace Sm
open PySem PySem.Spec PyProof.Rows L2
section
variable {prog : Program} {w : World} {A : Around} {E : Value → Shared → Prop} {s : Shared} {z TI TO i1 i2 T : Addr} {fp1 fp2 : List Addr} {n1 n2 i : Nat} {P1 P2 : Nat → Value → Prop} {St1 St2 : Nat → Heap → Prop} {f : Bool} {oT : Obj}
theorem zk_item {Q : Value → Shared → Prop} (S : ZipSep2 z TI TO i1 i2 fp1 fp2) (D1 : Draws prog w A i1 fp1 n1 P1 St1) (D2 : Draws prog w A i2 fp2 n2 P2 St2) (hz : IsZipHeld s.heap z TI TO T f) (hT : s.heap.get? T = some oT) (hTI : IsTupOf2 s.heap TI (.ref i1) (.ref i2)) (st1 : St1 i s.heap) (st2 : St2 i s.heap) (l1 : i < n1) (l2 : i < n2)
    (hQ : ∀ x1 x2 h' tk, P1 i x1 → P2 i x2 → IsZipHeld h' z TI TO T true → St1 (i + 1) h' → St2 (i + 1) h' → IsTupOf2 h' s.heap.objs.size x1 x2 → h'.objs.size = s.heap.objs.size + 1 → (∀ c o, c ≠ z → c ≠ i1 → c ≠ i2 → s.heap.get? c = some o → h'.get? c = some o) → Q (.ref s.heap.objs.size) { s with heap := h', toks := tk }) :
    wpAny (model prog w) A (Builtin.«zip.__next__» ⟨[.ref z], []⟩) (fun r s' => ∃ v, r = .done (.ret v) ∧ Q v s') E s := by
  obtain ⟨hp, g, d, tk0, os⟩ := s
  show wpAny _ _ (field (.ref z) 2 >>= _) _ _ ⟨hp, g, d, tk0, os⟩; refine wpAny_bind (wpAny_field hz rfl (x := .bool false) rfl ?_)
  show wpAny _ _ (field (.ref z) 3 >>= _) _ _ ⟨hp, g, d, tk0, os⟩; refine wpAny_bind (wpAny_field hz rfl (x := .ref TI) rfl (wpAny_bind (wpAny_seqItems hTI rfl ?_)))
  show wpAny _ _ (Builtin.SmallTypes.ownedTupleIsFree (.ref z) >>= _) _ _ ⟨hp, g, d, tk0, os⟩; refine wpAny_bind (wpAny_tupleHeld_zip hz hT fun g0 hz0 hs0 => ?_)
  replace hs0 : Heap.SameBut z hp g0 := hs0; simp only [Bool.false_eq_true, if_false]
  refine wpAny_bind ?_; rw [← Array.forIn_toList]; simp only [List.forIn_cons, List.forIn_nil]
  refine wpAny_bind (wpAny_bind (wpAny_holding ?_)); show wpAny _ _ (Builtin.SmallTypes.nextOf (.ref i1) >>= _) _ _ ⟨g0, g, d, tk0, os⟩
  refine wpAny_bind (D1.item i _ _ _ l1 (D1.over st1 hs0 S.zf1) fun x1 p1 tk1 hx1 sn1 hp1 => wpAny_pure (wpAny_pure ?_)); replace hp1 : Heap.SameBut i1 g0 p1 := hp1
  refine wpAny_bind (wpAny_bind (wpAny_holding ?_)); show wpAny _ _ (Builtin.SmallTypes.nextOf (.ref i2) >>= _) _ _ ⟨p1, g, d, tk1, os⟩
  refine wpAny_bind (D2.item i _ _ _ l2 (D2.over (D2.over st2 hs0 S.zf2) hp1 S.sep1_2) fun x2 p2 tk2 hx2 sn2 hp2 => wpAny_pure (wpAny_pure (wpAny_pure ?_))); replace hp2 : Heap.SameBut i2 p1 p2 := hp2
  show wpAny _ _ (newTuple [x1, x2] >>= _) _ _ ⟨p2, g, d, tk2, os⟩; refine wpAny_bind (wpAny_newTuple (wpAny_pure ⟨_, rfl, ?_⟩))
  have hsz : p2.objs.size = hp.objs.size := by rw [hp2.1, hp1.1, hs0.1]
  have hzz : IsZipHeld p2 z TI TO T true := hp2.extBut _ _ S.zi2 (hp1.extBut _ _ S.zi1 hz0)
  show Q (.ref p2.objs.size) ⟨p2.push { cls := .type "tuple", data := .seq #[x1, x2] }, g, d, tk2, os⟩
  have ht : IsTupOf2 (p2.push { cls := .type "tuple", data := .seq #[x1, x2] }) p2.objs.size x1 x2 := Heap.get?_push_size _ rfl
  have hz4 : (p2.push { cls := .type "tuple", data := .seq #[x1, x2] }).objs.size = p2.objs.size + 1 := Heap.size_push ..
  rw [hsz] at ht hz4 ⊢
  exact hQ x1 x2 _ tk2 hx1 hx2 (Heap.get?_push_of_some _ hzz) (D1.frame _ _ _ (D1.over sn1 hp2 S.sep2_1) fun b _ o e => Heap.get?_push_of_some _ e) (D2.frame _ _ _ sn2 fun b _ o e => Heap.get?_push_of_some _ e) ht hz4 fun c o c1 c2 c3 e => Heap.get?_push_of_some _ (hp2.extBut _ _ c3 (hp1.extBut _ _ c2 (hs0.extBut _ _ c1 e)))
theorem zk_end {Q : PySem.Fin → Shared → Prop} (S : ZipSep2 z TI TO i1 i2 fp1 fp2) (D1 : Draws prog w A i1 fp1 n1 P1 St1) (D2 : Draws prog w A i2 fp2 n2 P2 St2) (hz : IsZipHeld s.heap z TI TO T f) (hT : s.heap.get? T = some oT) (hTI : IsTupOf2 s.heap TI (.ref i1) (.ref i2)) (st1 : St1 i s.heap) (st2 : St2 i s.heap) (l1 : i ≤ n1) (l2 : i ≤ n2) (hend : i = n1 ∨ i = n2)
    (hE : ∀ h' tk e, (∀ c o, c ≠ z → c ≠ i1 → c ≠ i2 → s.heap.get? c = some o → h'.get? c = some o) → (∃ o, h'.get? e = some o ∧ o.cls = .type "StopIteration") → E (.ref e) { s with heap := h', toks := tk }) :
    wpAny (model prog w) A (Builtin.«zip.__next__» ⟨[.ref z], []⟩) Q E s := by
  obtain ⟨hp, g, d, tk0, os⟩ := s
  show wpAny _ _ (field (.ref z) 2 >>= _) _ _ ⟨hp, g, d, tk0, os⟩; refine wpAny_bind (wpAny_field hz rfl (x := .bool false) rfl ?_)
  show wpAny _ _ (field (.ref z) 3 >>= _) _ _ ⟨hp, g, d, tk0, os⟩; refine wpAny_bind (wpAny_field hz rfl (x := .ref TI) rfl (wpAny_bind (wpAny_seqItems hTI rfl ?_)))
  show wpAny _ _ (Builtin.SmallTypes.ownedTupleIsFree (.ref z) >>= _) _ _ ⟨hp, g, d, tk0, os⟩; refine wpAny_bind (wpAny_tupleHeld_zip hz hT fun g0 hz0 hs0 => ?_)
  replace hs0 : Heap.SameBut z hp g0 := hs0; simp only [Bool.false_eq_true, if_false]
  refine wpAny_bind ?_; rw [← Array.forIn_toList]; simp only [List.forIn_cons, List.forIn_nil]
  refine wpAny_bind (wpAny_bind (wpAny_holding ?_)); show wpAny _ _ (Builtin.SmallTypes.nextOf (.ref i1) >>= _) _ _ ⟨g0, g, d, tk0, os⟩
  by_cases h1 : i = n1
  · subst h1
    refine wpAny_bind (D1.done _ _ _ (D1.over st1 hs0 S.zf1) fun q e hq he => ?_)
    exact hE q tk0 e (fun c o c1 c2 _ x => hq _ _ c2 (hs0.extBut _ _ c1 x)) he
  · have h2 : i = n2 := hend.resolve_left h1
    have l1' : i < n1 := by omega
    refine wpAny_bind (D1.item i _ _ _ l1' (D1.over st1 hs0 S.zf1) fun x1 p1 tk1 hx1 sn1 hp1 => wpAny_pure (wpAny_pure ?_)); replace hp1 : Heap.SameBut i1 g0 p1 := hp1
    refine wpAny_bind (wpAny_bind (wpAny_holding ?_)); show wpAny _ _ (Builtin.SmallTypes.nextOf (.ref i2) >>= _) _ _ ⟨p1, g, d, tk1, os⟩
    subst h2
    refine wpAny_bind (D2.done _ _ _ (D2.over (D2.over st2 hs0 S.zf2) hp1 S.sep1_2) fun q e hq he => ?_)
    exact hE q tk1 e (fun c o c1 c2 c3 x => hq _ _ c3 (hp1.extBut _ _ c2 (hs0.extBut _ _ c1 x))) he
theorem zk_next {Q : Option Value → Shared → Prop} (S : ZipSep2 z TI TO i1 i2 fp1 fp2) (D1 : Draws prog w A.in1 i1 fp1 n1 P1 St1) (D2 : Draws prog w A.in1 i2 fp2 n2 P2 St2) (hz : IsZipHeld s.heap z TI TO T f) (hT : s.heap.get? T = some oT) (hTI : IsTupOf2 s.heap TI (.ref i1) (.ref i2)) (st1 : St1 i s.heap) (st2 : St2 i s.heap) (l1 : i < n1) (l2 : i < n2)
    (hQ : ∀ x1 x2 h' tk, P1 i x1 → P2 i x2 → IsZipHeld h' z TI TO T true → St1 (i + 1) h' → St2 (i + 1) h' → IsTupOf2 h' s.heap.objs.size x1 x2 → h'.objs.size = s.heap.objs.size + 1 → (∀ c o, c ≠ z → c ≠ i1 → c ≠ i2 → s.heap.get? c = some o → h'.get? c = some o) → Q (some (.ref s.heap.objs.size)) { s with heap := h', toks := tk }) :
    wpAny (model prog w) A (pyNext (.ref z)) Q E s := by
  have ty : s.TypeIs (.ref z) "zip" := ⟨_, hz, rfl⟩
  unfold pyNext
  exact wpAny_bind (wpAny_attempt (wpAny_callSpecial?_slot (name := Str.ofString "__next__") ty F.slot_zip_next (wpAny_call_entry F.slot_zip_next ty F.entry_zip_next (zk_item S D1 D2 hz hT hTI st1 st2 l1 l2 fun x1 x2 h' tk y1 y2 b1 d1 d2 b5 b6 b7 => wpAny_pure (hQ x1 x2 h' tk y1 y2 b1 d1 d2 b5 b6 b7)) (F.args_zip_next_1 _))))
theorem zk_stop {Q : Option Value → Shared → Prop} (S : ZipSep2 z TI TO i1 i2 fp1 fp2) (D1 : Draws prog w A.in1 i1 fp1 n1 P1 St1) (D2 : Draws prog w A.in1 i2 fp2 n2 P2 St2) (hz : IsZipHeld s.heap z TI TO T f) (hT : s.heap.get? T = some oT) (hTI : IsTupOf2 s.heap TI (.ref i1) (.ref i2)) (st1 : St1 i s.heap) (st2 : St2 i s.heap) (l1 : i ≤ n1) (l2 : i ≤ n2) (hend : i = n1 ∨ i = n2)
    (hQ : ∀ h' tk, (∀ c o, c ≠ z → c ≠ i1 → c ≠ i2 → s.heap.get? c = some o → h'.get? c = some o) → Q none { s with heap := h', toks := tk }) : wpAny (model prog w) A (pyNext (.ref z)) Q E s := by
  have ty : s.TypeIs (.ref z) "zip" := ⟨_, hz, rfl⟩
  unfold pyNext
  refine wpAny_bind (wpAny_attempt (wpAny_callSpecial?_slot (name := Str.ofString "__next__") ty F.slot_zip_next (wpAny_call_entry F.slot_zip_next ty F.entry_zip_next (zk_end S D1 D2 hz hT hTI st1 st2 l1 l2 hend fun h' tk e hk he => ?_) (F.args_zip_next_1 _))))
  obtain ⟨o, ho, hc⟩ := he
  exact wpAny_bind (wpAny_isInstance (T := "StopIteration") (b := true) ⟨o, ho, hc⟩ isSubtype_stop (wpAny_pure (hQ _ _ hk)))
/-- a zip between two draws -/
def ZAt (z TI TO i1 i2 : Addr) (St1 St2 : Nat → Heap → Prop) (N : Nat) (i : Nat) (h : Heap) : Prop := IsTupOf2 h TI (.ref i1) (.ref i2) ∧ St1 i h ∧ St2 i h ∧
  ((IsZip h z TI TO .none ∧ ∃ a b, IsTupOf2 h TO a b) ∨ ∃ T f oT, IsZipHeld h z TI TO T f ∧ h.get? T = some oT ∧ N < T)
/-- what has been put into the list: new pairs -/
def Pairs2 (P1 P2 : Nat → Value → Prop) (N : Nat) (acc : Array Value) (i : Nat) (h : Heap) : Prop := acc.size = i ∧ ∀ j v, acc[j]? = some v → ∃ (T : Addr) (x y : Value), v = .ref T ∧ P1 j x ∧ P2 j y ∧ IsTupOf2 h T x y ∧ N < T
theorem zip_loop (S : ZipSep2 z TI TO i1 i2 fp1 fp2) (D1 : Draws prog w A.in1.in1 i1 fp1 n1 P1 St1) (D2 : Draws prog w A.in1.in1 i2 fp2 n2 P2 St2) {n : Nat} (hmin : n = min n1 n2) (hn : n ≤ 100000) (L : Addr) (res : Value) (N : Nat)
    (b1 : ∀ b ∈ fp1, b ≤ N) (b2 : ∀ b ∈ fp2, b ≤ N) (bz : z ≤ N) (bI : TI ≤ N) (bO : TO ≤ N) (bL : L ≤ N) (Lz : L ≠ z) (LI : L ≠ TI) (LO : L ≠ TO) (L1 : L ∉ fp1) (L2 : L ∉ fp2) {R : Result → Shared → Prop} : ∀ (k i : Nat) (s : Shared) (acc : Array Value) (c : Nat), n - i = k → i ≤ n → N < s.heap.objs.size → ZAt z TI TO i1 i2 St1 St2 N i s.heap →
    s.heap.get? L = some { cls := .type "list", dict := none, data := .seq acc c, slots := #[] } → Pairs2 P1 P2 N acc i s.heap →
    (∀ h' tk acc' c', (∀ b o, b ≠ L → b ≠ z → b ≠ TO → b ≠ i1 → b ≠ i2 → s.heap.get? b = some o → h'.get? b = some o) → h'.get? L = some { cls := .type "list", dict := none, data := .seq acc' c', slots := #[] } → Pairs2 P1 P2 N acc' n h' → R (.ok (.ret res)) { s with heap := h', toks := tk }) →
    codeAny (model prog w) A (.builtin "list.extend.loop" ⟨[.ref L, .ref z, res], []⟩) R s := by
  have n1L : L ≠ i1 := fun e => L1 (by rw [e]; exact S.mem1)
  have n2L : L ≠ i2 := fun e => L2 (by rw [e]; exact S.mem2)
  have big : ∀ {T : Addr}, N < T → T ≠ L ∧ T ≠ z ∧ T ≠ TO ∧ T ≠ i1 ∧ T ≠ i2 := fun {T} hT => ⟨Nat.ne_of_gt (Nat.lt_of_le_of_lt bL hT), Nat.ne_of_gt (Nat.lt_of_le_of_lt bz hT), Nat.ne_of_gt (Nat.lt_of_le_of_lt bO hT), Nat.ne_of_gt (Nat.lt_of_le_of_lt (b1 _ S.mem1) hT), Nat.ne_of_gt (Nat.lt_of_le_of_lt (b2 _ S.mem2) hT)⟩
  intro k
  induction k with
  | zero =>
    intro i s acc c hk hi hN hz hL hp hR
    have hin : i = n := by omega
    subst hin
    obtain ⟨hTI, st1, st2, hz⟩ := hz
    refine codeAny_builtin F.entry_extend_loop ?_
    rw [Around.under_plainId F.plain_extend_loop _]; show wpAny _ A.in1 (pyNext (.ref z) >>= _) _ _ s
    have fin : ∀ h' tk, (∀ c o, c ≠ z → c ≠ TO → c ≠ i1 → c ≠ i2 → s.heap.get? c = some o → h'.get? c = some o) → R (.ok (.ret res)) { s with heap := h', toks := tk } := fun h' tk hk =>
      hR h' tk acc c (fun b o _ c1 c2 c3 c4 e => hk b o c1 c2 c3 c4 e) (hk _ _ Lz LO n1L n2L hL) ⟨hp.1, fun j v e => by
        obtain ⟨T, x, y, h1, h2, h3, h4, h5⟩ := hp.2 j v e
        obtain ⟨_, q2, q3, q4, q5⟩ := big h5
        exact ⟨T, x, y, h1, h2, h3, hk _ _ q2 q3 q4 q5 h4, h5⟩⟩
    rcases hz with ⟨hz, a, b, hTO⟩ | ⟨T, f, oT, hz, hT, hNT⟩
    · exact wpAny_bind (wpAny_pyNext_zipD2_end S D1 D2 hz hTI hTO st1 st2 (by omega) (by omega) (by omega) fun h' tk hk => wpAny_pure (fin h' tk hk))
    · exact wpAny_bind (zk_stop S D1 D2 hz hT hTI st1 st2 (by omega) (by omega) (by omega) fun h' tk hk => wpAny_pure (fin h' tk fun c o c1 _ c3 c4 e => hk c o c1 c3 c4 e))
  | succ k ih =>
    intro i s acc c hk hi hN hz hL hp hR
    obtain ⟨hTI, st1, st2, hz⟩ := hz
    refine codeAny_builtin F.entry_extend_loop ?_
    rw [Around.under_plainId F.plain_extend_loop _]; show wpAny _ A.in1 (pyNext (.ref z) >>= _) _ _ s
    have go : ∀ x1 x2 h' tk, P1 i x1 → P2 i x2 → (∃ T f oT, IsZipHeld h' z TI TO T f ∧ h'.get? T = some oT ∧ N < T) → St1 (i + 1) h' → St2 (i + 1) h' → IsTupOf2 h' s.heap.objs.size x1 x2 → h'.objs.size = s.heap.objs.size + 1 → (∀ c o, c ≠ z → c ≠ TO → c ≠ i1 → c ≠ i2 → s.heap.get? c = some o → h'.get? c = some o) →
        wpAny (model prog w) A.in1 (updateSeq L (·.push (.ref s.heap.objs.size)) >>= fun _ => again (.builtin "list.extend.loop" ⟨[.ref L, .ref z, res], []⟩)) (fun fin s' => match fin with | .done f => R (.ok f) s' | .again c' => c'.quiet = true ∧ codeAny (model prog w) A c' R s') (fun e s' => R (.error e) s') { s with heap := h', toks := tk } := by
      intro x1 x2 h' tk p1 p2 hzz t1 t2 ht hsz hk'
      have hL' := hk' _ _ Lz LO n1L n2L hL
      have oth : ∀ b o, b ≠ L → h'.get? b = some o → (h'.update L (Obj.mapSeq (·.push (.ref s.heap.objs.size)))).get? b = some o := fun b o hb e => (Heap.get?_update_other _ _ (Ne.symm hb)).trans e
      refine wpAny_bind (wpAny_updateSeq hL' rfl (wpAny_pure ⟨plainId_quiet F.plain_extend_loop _, ih (i + 1) _ (acc.push (.ref s.heap.objs.size)) _ (by omega) (by omega) ?_ ⟨?_, ?_, ?_, ?_⟩ (Heap.get?_update_self _ hL' rfl) ⟨?_, ?_⟩ fun h'' tk' acc' c' hk'' hL'' hp'' => ?_⟩) (by rw [hp.1, sizeLine_eq]; omega) (by show (acc.push _).size ≤ sizeLine + 1; rw [Array.size_push, hp.1, sizeLine_eq]; omega))
      · show N < (h'.update _ _).objs.size
        rw [Heap.size_update]; omega
      · exact oth _ _ (Ne.symm LI) (hk' _ _ S.TIz S.TITO S.TIi1 S.TIi2 hTI)
      · exact D1.frame _ _ _ t1 fun b hb o e => oth _ _ (fun q => L1 (q ▸ hb)) e
      · exact D2.frame _ _ _ t2 fun b hb o e => oth _ _ (fun q => L2 (q ▸ hb)) e
      · obtain ⟨T, f, oT, q1, q2, q3⟩ := hzz
        exact .inr ⟨T, f, oT, oth _ _ (Ne.symm Lz) q1, oth _ _ (big q3).1 q2, q3⟩
      · rw [Array.size_push, hp.1]
      · intro j v e
        rw [Array.getElem?_push] at e
        split at e
        · rename_i hj
          cases e
          rw [hj, hp.1]
          exact ⟨_, x1, x2, rfl, p1, p2, oth _ _ (big hN).1 ht, hN⟩
        · obtain ⟨T, x, y, h1, h2, h3, h4, h5⟩ := hp.2 j v e
          obtain ⟨q1, q2, q3, q4, q5⟩ := big h5
          exact ⟨T, x, y, h1, h2, h3, oth _ _ q1 (hk' _ _ q2 q3 q4 q5 h4), h5⟩
      · exact hR h'' tk' acc' c' (fun b o c0 c1 c2 c3 c4 e => hk'' b o c0 c1 c2 c3 c4 (oth _ _ c0 (hk' _ _ c1 c2 c3 c4 e))) hL'' hp''
    rcases hz with ⟨hz, a, b, hTO⟩ | ⟨T, f, oT, hz, hT, hNT⟩
    · refine wpAny_bind (wpAny_pyNext_zipD2_item S D1 D2 hz hTI hTO st1 st2 (by omega) (by omega) fun x1 x2 h' tk y1 y2 b1 b2 d1 d2 b5 b6 b7 => ?_)
      exact go x1 x2 h' tk y1 y2 ⟨_, false, _, b1, b5, hN⟩ d1 d2 b5 b6 b7
    · refine wpAny_bind (zk_next S D1 D2 hz hT hTI st1 st2 (by omega) (by omega) fun x1 x2 h' tk y1 y2 b1 d1 d2 b5 b6 b7 => ?_)
      obtain ⟨_, q2, _, q4, q5⟩ := big hNT
      exact go x1 x2 h' tk y1 y2 ⟨T, true, oT, b1, b7 _ _ q2 q4 q5 hT, hNT⟩ d1 d2 b5 b6 fun c o c1 _ c3 c4 e => b7 c o c1 c3 c4 e
end
end Sm

/-! SmZ2: the calls. -/
namespace Sm
open PySem PySem.Spec PyProof.Rows L2
theorem zip_no_len : typeLookup (.type "zip") "__len__" = pure none := by rw [typeLookup_type, builtinLookup_eq_fast]; kernel_rfl
theorem zip_no_hint : typeLookup (.type "zip") "__length_hint__" = pure none := by rw [typeLookup_type, builtinLookup_eq_fast]; kernel_rfl
section
variable {prog : Program} {w : World} {A : Around} {E : Value → Shared → Prop} {s : Shared} {z TI TO i1 i2 : Addr} {fp1 fp2 : List Addr} {n1 n2 : Nat} {P1 P2 : Nat → Value → Prop} {St1 St2 : Nat → Heap → Prop}
theorem zip_extend {R : Result → Shared → Prop} (S : ZipSep2 z TI TO i1 i2 fp1 fp2) (D1 : Draws prog w A.in1.in1 i1 fp1 n1 P1 St1) (D2 : Draws prog w A.in1.in1 i2 fp2 n2 P2 St2) {n : Nat} (hmin : n = min n1 n2) (hn : n ≤ 100000) (L : Addr) (res : Value) (c₀ : Nat)
    (b1 : ∀ b ∈ fp1, b < L) (b2 : ∀ b ∈ fp2, b < L) (bz : z < L) (bI : TI < L) (bO : TO < L) (hz : IsZip s.heap z TI TO .none) (hTI : IsTupOf2 s.heap TI (.ref i1) (.ref i2)) {a b : Value} (hTO : IsTupOf2 s.heap TO a b) (st1 : St1 0 s.heap) (st2 : St2 0 s.heap)
    (hL : s.heap.get? L = some { cls := .type "list", data := .seq #[] c₀ })
    (hR : ∀ h' tk acc' c', (∀ b o, b ≠ L → b ≠ z → b ≠ TO → b ≠ i1 → b ≠ i2 → s.heap.get? b = some o → h'.get? b = some o) → h'.get? L = some { cls := .type "list", dict := none, data := .seq acc' c', slots := #[] } → Pairs2 P1 P2 L acc' n h' → R (.ok (.ret res)) { s with heap := h', toks := tk }) :
    wpAny (model prog w) A.in1 (Builtin.List.listExtendWith (.ref L) (.ref z) res) (fun fin s' => match fin with | .done f => R (.ok f) s' | .again c' => c'.quiet = true ∧ codeAny (model prog w) A c' R s') (fun e s' => R (.error e) s') s := by
  have ty : s.TypeIs (.ref z) "zip" := ⟨_, hz, rfl⟩
  have nz : L ≠ z := Nat.ne_of_gt bz
  have nI : L ≠ TI := Nat.ne_of_gt bI
  have nO : L ≠ TO := Nat.ne_of_gt bO
  have nf1 : L ∉ fp1 := fun h => Nat.lt_irrefl _ (b1 _ h)
  have nf2 : L ∉ fp2 := fun h => Nat.lt_irrefl _ (b2 _ h)
  unfold Builtin.List.listExtendWith
  refine wpAny_bind (wpAny_typeOf ty ?_)
  have e1 : Builtin.List.listSameRef (.ref L) (.ref z) = false := by simp [Builtin.List.listSameRef, nz]
  have e2 : (Value.type "zip" == Value.type "list") = false := by decide
  have e3 : (Value.type "zip" == Value.type "tuple") = false := by decide
  simp only [e1, e2, e3, Bool.or_false, Bool.false_eq_true, if_false]
  refine wpAny_bind (wpAny_pyIter_zip hz (wpAny_bind (wpAny_holding ?_)))
  unfold Builtin.List.listLengthHint
  refine wpAny_bind (wpAny_specialOf ty zip_no_len ?_); show wpAny _ A.in1 (specialOf (Value.ref z) (Str.ofString "__length_hint__") >>= _) _ _ _
  refine wpAny_bind (wpAny_specialOf ty zip_no_hint (wpAny_pure ?_))
  show wpAny _ A.in1 (rule "list.extend.makes-room" >>= fun _ => Builtin.List.listTouch (.ref L) >>= fun _ => again (.builtin "list.extend.loop" ⟨[.ref L, .ref z, res], []⟩)) _ _ _
  refine wpAny_bind (wpAny_rule (wpAny_bind ?_)); show wpAny _ A.in1 (updateSeq L (·.push .none) >>= fun _ => updateSeq L (·.pop)) _ _ _
  refine wpAny_bind (wpAny_updateSeq hL rfl ?_)
  have l2 := Heap.get?_update_self (Obj.mapSeq (·.push Value.none)) hL rfl
  refine wpAny_updateSeq (hz := by seq_fits) l2 rfl ?_
  have l3 := Heap.get?_update_self (Obj.mapSeq (·.pop)) l2 rfl
  have oth : ∀ b o, b ≠ L → s.heap.get? b = some o → ((s.heap.update L (Obj.mapSeq (·.push Value.none))).update L (Obj.mapSeq (·.pop))).get? b = some o := fun b o hb e => (Heap.get?_update_other _ _ (Ne.symm hb)).trans ((Heap.get?_update_other _ _ (Ne.symm hb)).trans e)
  refine wpAny_pure ⟨plainId_quiet F.plain_extend_loop _, zip_loop S D1 D2 hmin hn L res L (fun b h => Nat.le_of_lt (b1 b h)) (fun b h => Nat.le_of_lt (b2 b h)) (Nat.le_of_lt bz) (Nat.le_of_lt bI) (Nat.le_of_lt bO) (Nat.le_refl _) nz nI nO nf1 nf2 n 0 _ _ _ rfl (Nat.zero_le _) ?_ ⟨oth _ _ (Ne.symm nI) hTI, D1.frame _ _ _ st1 fun b hb o e => oth _ _ (fun q => nf1 (q ▸ hb)) e, D2.frame _ _ _ st2 fun b hb o e => oth _ _ (fun q => nf2 (q ▸ hb)) e, .inl ⟨oth _ _ (Ne.symm nz) hz, a, b, oth _ _ (Ne.symm nO) hTO⟩⟩ l3 ⟨rfl, fun j v e => by simp at e⟩ fun h' tk acc' c' hk hl hp => ?_⟩
  · show L < ((s.heap.update _ _).update _ _).objs.size
    rw [Heap.size_update, Heap.size_update]; exact Heap.lt_size hL
  · exact hR h' tk acc' c' (fun b o c0 c1 c2 c3 c4 e => hk b o c0 c1 c2 c3 c4 (oth b o c0 e)) hl hp
/-- list(z) -/
theorem call_list_zip {Q : Value → Shared → Prop} (S : ZipSep2 z TI TO i1 i2 fp1 fp2) (D1 : Draws prog w A.in1.in1.in1 i1 fp1 n1 P1 St1) (D2 : Draws prog w A.in1.in1.in1 i2 fp2 n2 P2 St2) {n : Nat} (hmin : n = min n1 n2) (hn : n ≤ 100000)
    (b1 : ∀ b ∈ fp1, b < s.heap.objs.size) (b2 : ∀ b ∈ fp2, b < s.heap.objs.size) (hz : IsZip s.heap z TI TO .none) (hTI : IsTupOf2 s.heap TI (.ref i1) (.ref i2)) {a b : Value} (hTO : IsTupOf2 s.heap TO a b) (st1 : St1 0 s.heap) (st2 : St2 0 s.heap)
    (hQ : ∀ h' tk acc' c', (∀ b o, b ≠ z → b ≠ TO → b ≠ i1 → b ≠ i2 → s.heap.get? b = some o → h'.get? b = some o) → h'.get? s.heap.objs.size = some { cls := .type "list", dict := none, data := .seq acc' c', slots := #[] } → Pairs2 P1 P2 s.heap.objs.size acc' n h' → Q (.ref s.heap.objs.size) { s with heap := h', toks := tk }) :
    wpAny (model prog w) A (call (.type "list") [.ref z]) Q E s := by
  refine callType_codes (Q₁ := fun obj s₁ => obj = .ref s.heap.objs.size ∧ s₁ = { s with heap := s.heap.push { cls := .type "list", data := .seq #[] } }) F.called_list (F.typeCall_list_1 _) F.entry_list_init (code_list_new _ ⟨rfl, rfl⟩) fun obj s₁ h₁ => ?_
  obtain ⟨rfl, rfl⟩ := h₁
  have l0 : (s.heap.push { cls := .type "list", data := .seq #[] }).get? s.heap.objs.size = some { cls := .type "list", data := .seq #[] } := Heap.get?_push_size _ rfl
  have nz : z < s.heap.objs.size := Heap.lt_size hz
  have nI : TI < s.heap.objs.size := Heap.lt_size hTI
  have nO : TO < s.heap.objs.size := Heap.lt_size hTO
  have l1 := Heap.get?_update_self (Obj.mapSeq (fun _ => (#[] : Array Value))) l0 rfl
  have oth : ∀ b o, s.heap.get? b = some o → ((s.heap.push { cls := .type "list", data := .seq #[] }).update s.heap.objs.size (Obj.mapSeq (fun _ => (#[] : Array Value)))).get? b = some o := fun b o e => (Heap.get?_update_other _ _ (Nat.ne_of_gt (Heap.lt_size e))).trans (Heap.get?_push_of_some _ e)
  refine ⟨⟨_, l0, rfl⟩, F.args_list_init_2 _ _, ?_⟩
  show wpAny _ _ (do let old ← Builtin.List.listItems (.ref s.heap.objs.size); Builtin.List.listUpdate (.ref s.heap.objs.size) (fun _ => #[]); letGo old.toList.reverse; Builtin.List.listExtendWith (.ref s.heap.objs.size) (.ref z) .none) _ _ _
  refine wpAny_bind ?_; unfold Builtin.List.listItems; refine wpAny_bind (wpAny_seqItems l0 rfl (wpAny_pure ?_))
  show wpAny _ _ (updateSeq s.heap.objs.size (fun _ => #[]) >>= fun _ => letGo (#[] : Array Value).toList.reverse >>= fun _ => Builtin.List.listExtendWith (.ref s.heap.objs.size) (.ref z) .none) _ _ _
  refine wpAny_bind (wpAny_updateSeq l0 rfl (wpAny_bind (wpAny_letGo ?_)))
  refine zip_extend (A := A.in1) S D1 D2 hmin hn s.heap.objs.size .none _ b1 b2 nz nI nO (oth _ _ hz) (oth _ _ hTI) (oth _ _ hTO) (D1.frame _ _ _ st1 fun b _ o e => oth b o e) (D2.frame _ _ _ st2 fun b _ o e => oth b o e) l1 fun h' tk acc' c' hk hl hp => ?_
  exact ⟨rfl, hQ h' tk acc' c' (fun b o c1 c2 c3 c4 e => hk b o (Nat.ne_of_lt (Heap.lt_size e)) c1 c2 c3 c4 (oth b o e)) hl hp⟩
theorem zip_collect {Q : List Value → Shared → Prop} (S : ZipSep2 z TI TO i1 i2 fp1 fp2) (D1 : Draws prog w A.in1.in1 i1 fp1 n1 P1 St1) (D2 : Draws prog w A.in1.in1 i2 fp2 n2 P2 St2) {n : Nat} (hmin : n = min n1 n2) (hn : n ≤ 100000)
    (b1 : ∀ b ∈ fp1, b < s.heap.objs.size) (b2 : ∀ b ∈ fp2, b < s.heap.objs.size) (hz : IsZip s.heap z TI TO .none) (hTI : IsTupOf2 s.heap TI (.ref i1) (.ref i2)) {a b : Value} (hTO : IsTupOf2 s.heap TO a b) (st1 : St1 0 s.heap) (st2 : St2 0 s.heap)
    (hQ : ∀ h' tk acc', (∀ b o, b ≠ z → b ≠ TO → b ≠ i1 → b ≠ i2 → s.heap.get? b = some o → h'.get? b = some o) → s.heap.objs.size ≤ h'.objs.size → Pairs2 P1 P2 s.heap.objs.size acc' n h' → Q acc'.toList { s with heap := h', toks := tk }) :
    wpAny (model prog w) A (collect (.ref z)) Q E s := by
  unfold collect
  refine wpAny_bind (wpAny_runValue (codeAny_builtin F.entry_proto_collect ?_)); rw [Around.under_plainId F.plain_proto_collect _]
  show wpAny _ A.in1 (newList [] >>= fun l => again (.builtin "list.__iadd__" ⟨[l, .ref z], []⟩)) _ _ s
  refine wpAny_bind (wpAny_newObj_type (wpAny_pure ⟨plainId_quiet F.plain_list_iadd _, codeAny_builtin F.entry_list_iadd ?_⟩)); rw [Around.under_plainId F.plain_list_iadd _]
  show wpAny _ A.in1 (Builtin.List.listExtendWith (.ref s.heap.objs.size) (.ref z) (.ref s.heap.objs.size)) _ _ _
  have l0 : (s.heap.push { cls := .type "list", data := .seq ([] : List Value).toArray }).get? s.heap.objs.size = some { cls := .type "list", data := .seq #[] 0 } := Heap.get?_push_size _ rfl
  have nz : z < s.heap.objs.size := Heap.lt_size hz
  have nI : TI < s.heap.objs.size := Heap.lt_size hTI
  have nO : TO < s.heap.objs.size := Heap.lt_size hTO
  refine wpAny_mono (zip_extend (A := A) (R := fun rr s' => rr = .ok (.ret (.ref s.heap.objs.size)) ∧ ∃ (h' : Heap) (tk : Nat) (acc : Array Value) (c' : Nat), s' = { s with heap := h', toks := tk } ∧ (∀ b o, b ≠ z → b ≠ TO → b ≠ i1 → b ≠ i2 → s.heap.get? b = some o → h'.get? b = some o) ∧ h'.get? s.heap.objs.size = some { cls := .type "list", dict := none, data := .seq acc c', slots := #[] } ∧ Pairs2 P1 P2 s.heap.objs.size acc n h')
    (s := { s with heap := s.heap.push { cls := .type "list", data := .seq ([] : List Value).toArray } }) S D1 D2 hmin hn s.heap.objs.size _ 0 b1 b2 nz nI nO (Heap.get?_push_of_some _ hz) (Heap.get?_push_of_some _ hTI) (Heap.get?_push_of_some _ hTO) (D1.frame _ _ _ st1 fun b _ o e => Heap.get?_push_of_some _ e) (D2.frame _ _ _ st2 fun b _ o e => Heap.get?_push_of_some _ e) l0
    (fun h' tk acc c' hk e hp => ⟨rfl, h', tk, acc, c', rfl, fun b o c1 c2 c3 c4 q => hk b o (Nat.ne_of_lt (Heap.lt_size q)) c1 c2 c3 c4 (Heap.get?_push_of_some _ q), e, hp⟩)) (fun fin s' h => ?_) (fun e s' h => ?_)
  · cases fin with
    | done f =>
      obtain ⟨e, h', tk, acc, c', rfl, hk, hS', hi⟩ := h
      cases e
      show wpAny _ A (load s.heap.objs.size >>= _) _ _ _; exact wpAny_bind (wpAny_load hS' (wpAny_pure (hQ h' tk acc hk (Nat.le_of_lt (Heap.lt_size hS')) hi)))
    | again c' =>
      refine ⟨h.1, codeAny_mono h.2 fun rr s'' hr' => ?_⟩
      obtain ⟨rfl, h', tk, acc, c', rfl, hk, hS', hi⟩ := hr'
      show wpAny _ A (load s.heap.objs.size >>= _) _ _ _; exact wpAny_bind (wpAny_load hS' (wpAny_pure (hQ h' tk acc hk (Nat.le_of_lt (Heap.lt_size hS')) hi)))
  · exact absurd h.1 (by simp)
theorem code_tuple_zip {Q₁ : Value → Shared → Prop} (S : ZipSep2 z TI TO i1 i2 fp1 fp2) (D1 : Draws prog w A.in1.in1.in1 i1 fp1 n1 P1 St1) (D2 : Draws prog w A.in1.in1.in1 i2 fp2 n2 P2 St2) {n : Nat} (hmin : n = min n1 n2) (hn : n ≤ 100000)
    (b1 : ∀ b ∈ fp1, b < s.heap.objs.size) (b2 : ∀ b ∈ fp2, b < s.heap.objs.size) (hz : IsZip s.heap z TI TO .none) (hTI : IsTupOf2 s.heap TI (.ref i1) (.ref i2)) {a b : Value} (hTO : IsTupOf2 s.heap TO a b) (st1 : St1 0 s.heap) (st2 : St2 0 s.heap)
    (h : ∀ h' tk acc', (∀ b o, b ≠ z → b ≠ TO → b ≠ i1 → b ≠ i2 → s.heap.get? b = some o → h'.get? b = some o) → s.heap.objs.size ≤ h'.objs.size → Pairs2 P1 P2 s.heap.objs.size acc' n h' → Q₁ (.ref h'.objs.size) { s with heap := h'.push { cls := .type "tuple", data := .seq acc' }, toks := tk }) :
    codeAny (model prog w) A (.call (.builtin "tuple.__new__") ⟨[.type "tuple", .ref z], []⟩) (wants Q₁ E) s := by
  refine codeAny_of_tree ?_
  show wpAny _ A.in1 (do checkBuiltinCall "tuple.__new__" ⟨[.type "tuple", .ref z], []⟩; again (.builtin "tuple.__new__" ⟨[.type "tuple", .ref z], []⟩)) _ _ s
  refine wpAny_bind (wpAny_of_eq (F.newCall_tuple_1 _) (wpAny_pure ⟨plainId_quiet F.plain_tuple_new _, codeAny_builtin F.entry_tuple_new ?_⟩)); rw [Around.under_plainId F.plain_tuple_new _]
  have s1 := sub_tuple_self
  have s2 := init_tuple_lookup
  have s3 := madeHere_tuple
  have ty : s.TypeIs (.ref z) "zip" := ⟨_, hz, rfl⟩
  wp_walk using wpAny_typeOf ty, zip_collect (A := A.in1) S D1 D2 hmin hn b1 b2 hz hTI hTO st1 st2
  intro h' tk acc hk hle hacc
  show wpAny _ _ (Builtin.Tuple.tupleExact acc.toList.toArray >>= fun v => ret v) _ _ _; unfold Builtin.Tuple.tupleExact
  refine wpAny_bind (wpAny_newObj_type (wpAny_pure ?_) (by show acc.toList.toArray.size ≤ sizeLine; simp only [Array.toArray_toList]; rw [hacc.1, sizeLine_eq]; omega))
  have e : acc.toList.toArray = acc := by simp
  rw [e]; exact h h' tk acc hk hle hacc
/-- tuple(z) -/
theorem call_tuple_zip {Q : Value → Shared → Prop} (S : ZipSep2 z TI TO i1 i2 fp1 fp2) (D1 : Draws prog w A.in1.in1.in1.in1 i1 fp1 n1 P1 St1) (D2 : Draws prog w A.in1.in1.in1.in1 i2 fp2 n2 P2 St2) {n : Nat} (hmin : n = min n1 n2) (hn : n ≤ 100000)
    (b1 : ∀ b ∈ fp1, b < s.heap.objs.size) (b2 : ∀ b ∈ fp2, b < s.heap.objs.size) (hz : IsZip s.heap z TI TO .none) (hTI : IsTupOf2 s.heap TI (.ref i1) (.ref i2)) {a b : Value} (hTO : IsTupOf2 s.heap TO a b) (st1 : St1 0 s.heap) (st2 : St2 0 s.heap)
    (hQ : ∀ h' tk acc', (∀ b o, b ≠ z → b ≠ TO → b ≠ i1 → b ≠ i2 → s.heap.get? b = some o → h'.get? b = some o) → s.heap.objs.size ≤ h'.objs.size → Pairs2 P1 P2 s.heap.objs.size acc' n h' → Q (.ref h'.objs.size) { s with heap := h'.push { cls := .type "tuple", data := .seq acc' }, toks := tk }) :
    wpAny (model prog w) A (call (.type "tuple") [.ref z]) Q E s := by
  refine callType_codes (Q₁ := fun obj s₁ => s₁.TypeIs obj "tuple" ∧ Q obj s₁) F.called_tuple (F.typeCall_tuple_1 _) F.entry_object_init (code_tuple_zip (A := A.in1) S D1 D2 hmin hn b1 b2 hz hTI hTO st1 st2 fun h' tk acc hk hle hacc => ⟨⟨_, Heap.get?_push_size _ rfl, rfl⟩, hQ h' tk acc hk hle hacc⟩) fun obj s₁ h₁ => ?_
  exact ⟨h₁.1, F.args_object_init_2 obj _, object_init_meets F.called_tuple.init.lookup F.called_tuple.made (by decide) prog w A.in1 _ s₁ ⟨h₁.1, rfl, h₁.2⟩⟩
end
end Sm

/-! SmZ3: list(zip(a, b)), tuple(zip(a, b)) as expressions, and as plain functions. -/
namespace Sm
open PySem PySem.Spec PyProof.Rows L2
section
variable {X : Cx} {pins : List (Addr × Obj)} {σ : List (Option V)} {H H' : Hp} {s : Shared} {h' : Heap} {t' : Nat}
/-- several new objects at once -/
theorem inv_lays (I : Inv X pins σ H s) (k : ∀ b u, s.heap.get? b = some u → h'.get? b = some u) (h1 : Same H H') (h2 : ∀ a o, H' a = some o → H a = some o ∨ (s.heap.objs.size ≤ a ∧ ObjOk X.prog X.w H' h' a o)) : Inv X pins σ H' { s with heap := h', toks := t' } := by
  have fr : ∀ b u, s.heap.get? b = some u → H b = none → H' b = none := fun b u q n => by
    cases e : H' b with
    | none => rfl
    | some o =>
      rcases h2 b o e with z | ⟨z, _⟩
      · rw [n] at z; cases z
      · exact absurd (Heap.lt_size q) (Nat.not_lt.mpr z)
  refine I.un { keep := fun b u q _ _ _ => k b u q, slot := fun b u q _ _ _ => ⟨u.slots, k b u q⟩, free := fun b u q n _ => fr b u q n, there := fun b u q _ => ⟨u, k b u q⟩, tups := fun b xs q => h1 _ _ q, frzs := fun b o u q => h1 _ _ q, tbls := fun b ps q => ⟨#[], by rw [h1 _ _ q]; simp⟩ } fun b u e => ?_
  rcases h2 b u e with z | ⟨_, z⟩
  · exact (I.hok b u z).stay (fun c v _ q => k c v q) (fun c q => h1 _ _ q) fun c xs q => h1 _ _ q
  · exact z
end
/-- a list or a tuple -/
def SqA (K : PySem.W.Frag) (H : Hp) (a : Addr) (xs : List V) : Prop := SqL K H a xs ∨ SqT K H a xs
theorem seq_draws {X : Cx} {pins : List (Addr × Obj)} {σ : List (Option V)} {H : Hp} {s : Shared} {a : Addr} {xs : List V} (I : Inv X pins σ H s) (h : SqA X.K H a xs) :
    ∃ (its : List Value) (o : Obj) (Hh : Heap → Prop), Vals xs its ∧ Begins (.ref a) o Hh ∧ Hh s.heap ∧ a < s.heap.objs.size ∧ ∀ (A : Around) (it : Addr), A.handled = none → a ≠ it → ∃ St : Nat → Heap → Prop, Draws X.prog X.w A it [it, a] its.length (fun i v => its[i]? = some v) St ∧ ∀ h', h'.get? it = some o → (∀ c u, s.heap.get? c = some u → h'.get? c = some u) → St 0 h' := by
  rcases h with h | h
  · obtain ⟨its, rv, pl, _⟩ := I.list h
    refine ⟨its, _, _, rv, begins_list a its.toArray, pl.isList, pl.lt, fun A it hh hne => ⟨fun i h => h.IsListIter it a i ∧ h.IsList a its.toArray, ?_, fun h' hit hk => ⟨⟨_, hit, rfl, rfl⟩, pl.isList.at fun o e => hk _ _ e⟩⟩⟩
    have := Draws.list (prog := X.prog) (w := X.w) hh it a hne its.toArray
    simpa using this
  · obtain ⟨its, rv, pl, _⟩ := I.tuple h
    have hl : Heap.IsTuple s.heap a its.toArray := pl
    refine ⟨its, _, _, rv, begins_tuple a its.toArray, hl, pl.lt, fun A it hh hne => ⟨fun i h => h.IsTupleIter it a i ∧ h.IsTuple a its.toArray, ?_, fun h' hit hk => ⟨⟨_, hit, rfl, rfl⟩, hl.at fun o e => hk _ _ e⟩⟩⟩
    have := Draws.tuple (prog := X.prog) (w := X.w) hh it a hne its.toArray
    simpa using this
open Classical in
noncomputable def layP (H : Hp) (p : Addr) (o : HO) (ts : List Addr) (xs ys : List V) : Hp := fun a => if a = p then some o else
  if h : ∃ q : V × V, ∃ j : Nat, ts[j]? = some a ∧ xs[j]? = some q.1 ∧ ys[j]? = some q.2 then some (.tup [h.choose.1, h.choose.2]) else H a
/-- what list(zip(..)) leaves: new pairs at ts, and the new list (or tuple) of them at p -/
structure Zipped (H H2 : Hp) (p : Addr) (o : List V → HO) (xs ys : List V) : Prop where
  new : H p = none
  same : Same H H2
  all : ∃ ts : List Addr, ts.length = min xs.length ys.length ∧ H2 p = some (o (ts.map V.ref)) ∧ ∀ (j : Nat) (T : Addr) (x y : V), ts[j]? = some T → xs[j]? = some x → ys[j]? = some y → H T = none ∧ H2 T = some (.tup [x, y])
def tZipC (K : PySem.W.Frag) (o : List V → HO) (ta : TA) : TE := fun σ H Q => ta σ H fun vs H1 => ∃ a b xs ys, vs = [.ref a, .ref b] ∧ SqA K H1 a xs ∧ SqA K H1 b ys ∧ min xs.length ys.length ≤ 100000 ∧ ∀ p H2, Zipped H1 H2 p o xs ys → Q (.ref p) H2
theorem refs_of : ∀ {vs : List Value}, (∀ (j : Nat) (v : Value), vs[j]? = some v → ∃ T : Addr, v = .ref T) → ∃ ts : List Addr, vs = ts.map Value.ref
  | [], _ => ⟨[], rfl⟩
  | v :: vs, h => by
    obtain ⟨T, rfl⟩ := h 0 v rfl
    obtain ⟨ts, rfl⟩ := refs_of (vs := vs) fun j u e => h (j + 1) u (by simpa using e)
    exact ⟨T :: ts, rfl⟩
theorem rel_inj {x y : V} {u : Value} (h : RelV x u) (h' : RelV y u) : x = y := by
  have := Vals.inj (.cons h .nil) (.cons h' .nil)
  injection this
theorem zip_inv {X : Cx} {pins : List (Addr × Obj)} {σ : List (Option V)} {H : Hp} {s : Shared} {h' : Heap} {tk : Nat} {xs ys : List V} {us vs : List Value} {N : Nat} {acc : Array Value} {p : Addr} {o : List V → HO} (I : Inv X pins σ H s) (rx : Vals xs us) (ry : Vals ys vs) (hk : ∀ b u, s.heap.get? b = some u → h'.get? b = some u) (hN : s.heap.objs.size ≤ N) (hp : s.heap.objs.size ≤ p)
    (hP : Pairs2 (fun i v => us[i]? = some v) (fun i v => vs[i]? = some v) N acc (min us.length vs.length) h') (hpn : ∀ (j : Nat) (v : Value), acc[j]? = some v → v ≠ Value.ref p) (hO : ∀ H', ∀ ts : List Addr, acc.toList = ts.map Value.ref → ObjOk X.prog X.w H' h' p (o (ts.map V.ref))) :
    ∃ H2, Inv X pins σ H2 { s with heap := h', toks := tk } ∧ Zipped H H2 p o xs ys := by
  obtain ⟨ts, hts⟩ := refs_of (vs := acc.toList) fun j v e => by
    obtain ⟨T, _, _, h1, _⟩ := hP.2 j v (by rw [← e]; simp)
    exact ⟨T, h1⟩
  have hlen : ts.length = min xs.length ys.length := by
    have := hP.1
    rw [rx.length, ry.length, ← this, ← Array.length_toList, hts, List.length_map]
  have at1 : ∀ (j : Nat) (T : Addr), ts[j]? = some T → acc[j]? = some (.ref T) := fun j T e => by
    have : acc.toList[j]? = some (.ref T) := by rw [hts, List.getElem?_map, e]; rfl
    simpa using this
  have pair : ∀ (j : Nat) (T : Addr) (x y : V), ts[j]? = some T → xs[j]? = some x → ys[j]? = some y → ∃ u v, IsTupOf2 h' T u v ∧ RelV x u ∧ RelV y v ∧ N < T := fun j T x y e e1 e2 => by
    obtain ⟨T', u, v, h1, h2, h3, h4, h5⟩ := hP.2 j _ (at1 j T e)
    cases h1
    obtain ⟨u', g1, g2⟩ := rx.get e1
    obtain ⟨v', g3, g4⟩ := ry.get e2
    rw [g1] at h2; cases h2
    rw [g3] at h3; cases h3
    exact ⟨_, _, h4, g2, g4, h5⟩
  have some_at : ∀ (j : Nat) (T : Addr), ts[j]? = some T → ∃ x y, xs[j]? = some x ∧ ys[j]? = some y := fun j T e => by
    obtain ⟨hj, _⟩ := List.getElem?_eq_some_iff.mp e
    exact ⟨_, _, List.getElem?_eq_getElem (by omega), List.getElem?_eq_getElem (by omega)⟩
  have nep : ∀ (j : Nat) (T : Addr), ts[j]? = some T → T ≠ p := fun j T e q => hpn j _ (at1 j T e) (by rw [q])
  have Hp' : layP H p (o (ts.map V.ref)) ts xs ys p = some (o (ts.map V.ref)) := by unfold layP; rw [if_pos rfl]
  have Ht : ∀ (j : Nat) (T : Addr) (x y : V), ts[j]? = some T → xs[j]? = some x → ys[j]? = some y → layP H p (o (ts.map V.ref)) ts xs ys T = some (.tup [x, y]) := fun j T x y e e1 e2 => by
    have hx : ∃ q : V × V, ∃ j : Nat, ts[j]? = some T ∧ xs[j]? = some q.1 ∧ ys[j]? = some q.2 := ⟨(x, y), j, e, e1, e2⟩
    unfold layP
    rw [if_neg (nep j T e), dif_pos hx]
    obtain ⟨j', f1, f2, f3⟩ := hx.choose_spec
    obtain ⟨u, v, a1, a2, a3, _⟩ := pair j T x y e e1 e2
    obtain ⟨u', v', c1, c2, c3, _⟩ := pair j' T _ _ f1 f2 f3
    have q : (some ({ cls := .type "tuple", data := .seq #[u, v] } : Obj)) = some { cls := .type "tuple", data := .seq #[u', v'] } := a1.symm.trans c1
    injection q with q
    injection q with _ _ q _
    injection q with q _
    have q2 : [u, v] = [u', v'] := congrArg Array.toList q
    injection q2 with q3 q4
    injection q4 with q4 _
    subst q3 q4
    rw [rel_inj c2 a2, rel_inj c3 a3]
  have Ho : ∀ a, a ≠ p → (∀ j : Nat, ts[j]? ≠ some a) → layP H p (o (ts.map V.ref)) ts xs ys a = H a := fun a h1 h2 => by
    unfold layP
    rw [if_neg h1, dif_neg (fun ⟨_, j, e, _⟩ => h2 j e)]
  have big : ∀ (j : Nat) (T : Addr), ts[j]? = some T → s.heap.objs.size ≤ T := fun j T e => by
    obtain ⟨x, y, e1, e2⟩ := some_at j T e
    obtain ⟨_, _, _, _, _, h5⟩ := pair j T x y e e1 e2
    exact Nat.le_trans hN (Nat.le_of_lt h5)
  have sm : Same H (layP H p (o (ts.map V.ref)) ts xs ys) := fun a u e => by
    have hlt : ∀ b, s.heap.objs.size ≤ b → a ≠ b := fun b hb z => by
      have := I.hok.fresh hb
      rw [z, this] at e; cases e
    rw [Ho a (hlt p hp) (fun j q => hlt a (big j a q) rfl)]
    exact e
  refine ⟨layP H p (o (ts.map V.ref)) ts xs ys, inv_lays I hk sm fun a u e => ?_, I.hok.fresh hp, sm, ts, hlen, Hp', fun j T x y e e1 e2 => ⟨I.hok.fresh (big j T e), Ht j T x y e e1 e2⟩⟩
  by_cases h1 : a = p
  · subst h1
    rw [Hp'] at e; cases e
    exact .inr ⟨hp, hO _ ts hts⟩
  · by_cases h2 : ∃ j : Nat, ts[j]? = some a
    · obtain ⟨j, ej⟩ := h2
      obtain ⟨x, y, e1, e2⟩ := some_at j a ej
      rw [Ht j a x y ej e1 e2] at e; cases e
      obtain ⟨u, v, q1, q2, q3, _⟩ := pair j a x y ej e1 e2
      exact .inr ⟨big j a ej, by show ([x, y] : List V).length ≤ sizeLine; rw [sizeLine_eq]; simp, [u, v], .cons q2 (.cons q3 .nil), ⟨_, q1, rfl, _, rfl⟩⟩
    · rw [Ho a h1 (fun j q => h2 ⟨j, q⟩)] at e
      exact .inl e
section
variable {X : Cx} {e e2 : Expr} {ta : TA} {p p2 pos pos2 : Pos}
theorem pe_listZip (hc : X.calm = true) (hg : Gl X "list") (hm : X.mg "list" = none) (hg2 : Gl X "zip") (hm2 : X.mg "zip" = none) (ha : PA X [e, e2] ta)
    (hs : starEach [e, e2] X.env = (false, eval e X.env) :: starEach [e2] X.env := by rfl) (hpl : (backTo pos2 (starEach [e2] X.env)).any (·.1) = false := by rfl)
    (na : starEach [.Call (.Name "zip" p2) [e, e2] [] pos2] X.env = (false, eval (.Call (.Name "zip" p2) [e, e2] [] pos2) X.env) :: starEach [] X.env := by rfl) :
    PE X (.Call (.Name "list" p) [.Call (.Name "zip" p2) [e, e2] [] pos2] [] pos) (tZipC X.K .lst ta) := by
  refine ⟨fun pins s σ H Q I h => ?_⟩
  refine Call_ (ld_blt I hg hm boot_list (PyProof.Rows.callWith_type1 (args_cons (Call_ (ld_blt I hg2 hm2 PyProof.Rows.boot_zip (PyProof.Rows.callWith_type1 (thn (ha.run pos2 pins s σ H _ I h) fun us s1 ⟨vs, H1, I1, r1, q1⟩ => ?_) hs hpl))) na) na))
  obtain ⟨a, b, xs, ys, ex, sx, sy, hlen, q⟩ := q1
  subst ex
  cases r1 with
  | cons r rr =>
    cases rr with
    | cons r' rr =>
      cases rr
      cases r
      cases r'
      have hh := I1.ok.hd hc
      obtain ⟨us, o1, h1, rx, B1, hb1, l1, dr1⟩ := seq_draws I1 sx
      obtain ⟨vs, o2, h2, ry, B2, hb2, l2, dr2⟩ := seq_draws I1 sy
      refine zip_begins2 B1 B2 hb1 hb2 fun h' hz hTI hTO g1 g2 hsz hk => args_nil ?_
      obtain ⟨St1, D1, st1⟩ := dr1 X.A.in1.in1.in1 s1.heap.objs.size hh (Nat.ne_of_lt l1)
      obtain ⟨St2, D2, st2⟩ := dr2 X.A.in1.in1.in1 (s1.heap.objs.size + 1) hh (Nat.ne_of_lt (Nat.lt_succ_of_lt l2))
      have S := zip_sep2 (N := s1.heap.objs.size) (fp1 := [a]) (fp2 := [b]) (by intro c hc; rw [List.mem_singleton] at hc; rw [hc]; exact l1) (by intro c hc; rw [List.mem_singleton] at hc; rw [hc]; exact l2)
      refine call_list_zip (A := X.A) (s := { s1 with heap := h' }) S D1 D2 rfl (by rw [← rx.length, ← ry.length]; exact hlen) ?_ ?_ hz hTI hTO (st1 _ g1 hk) (st2 _ g2 hk) fun h'' tk acc c' hk' hl hp => ?_
      · intro c hc
        show c < h'.objs.size
        rw [hsz]
        simp only [List.mem_cons, List.not_mem_nil, or_false] at hc
        rcases hc with rfl | rfl
        · exact Nat.lt_add_of_pos_right (by decide)
        · exact Nat.lt_of_lt_of_le l1 (Nat.le_add_right _ _)
      · intro c hc
        show c < h'.objs.size
        rw [hsz]
        simp only [List.mem_cons, List.not_mem_nil, or_false] at hc
        rcases hc with rfl | rfl
        · exact Nat.add_lt_add_left (by decide) _
        · exact Nat.lt_of_lt_of_le l2 (Nat.le_add_right _ _)
      · have hle : s1.heap.objs.size ≤ h'.objs.size := by rw [hsz]; exact Nat.le_add_right _ _
        have kk : ∀ c u, s1.heap.get? c = some u → h''.get? c = some u := fun c u q => by
          have := Heap.lt_size q
          exact hk' c u (fun z => by rw [z] at this; exact absurd this (Nat.not_lt.mpr (Nat.le_add_right _ _))) (fun z => by rw [z] at this; exact absurd this (Nat.not_lt.mpr (Nat.le_add_right _ _))) (fun z => by rw [z] at this; exact Nat.lt_irrefl _ this) (fun z => by rw [z] at this; exact absurd this (Nat.not_lt.mpr (Nat.le_add_right _ _))) (hk c u q)
        obtain ⟨H2, I2, zz⟩ := zip_inv (o := .lst) (p := h'.objs.size) (tk := tk) I1 rx ry kk hle hle hp (fun j v ev => by
          obtain ⟨T, _, _, rfl, _, _, _, hT⟩ := hp.2 j v ev
          intro z; cases z
          exact Nat.lt_irrefl _ hT) (fun H' ts ht => ⟨by rw [List.length_map]; have := hp.1; rw [← Array.length_toList, ht, List.length_map] at this; rw [this, ← rx.length, ← ry.length, sizeLine_eq]; omega, acc.toList, c', by rw [ht]; exact vals_refs ts, by rw [Array.toArray_toList]; exact hl⟩)
        exact ⟨.ref h'.objs.size, H2, I2, rfl, q _ _ zz⟩
theorem pe_tupZip (hc : X.calm = true) (hg : Gl X "tuple") (hm : X.mg "tuple" = none) (hg2 : Gl X "zip") (hm2 : X.mg "zip" = none) (ha : PA X [e, e2] ta)
    (hs : starEach [e, e2] X.env = (false, eval e X.env) :: starEach [e2] X.env := by rfl) (hpl : (backTo pos2 (starEach [e2] X.env)).any (·.1) = false := by rfl)
    (na : starEach [.Call (.Name "zip" p2) [e, e2] [] pos2] X.env = (false, eval (.Call (.Name "zip" p2) [e, e2] [] pos2) X.env) :: starEach [] X.env := by rfl) :
    PE X (.Call (.Name "tuple" p) [.Call (.Name "zip" p2) [e, e2] [] pos2] [] pos) (tZipC X.K .tup ta) := by
  refine ⟨fun pins s σ H Q I h => ?_⟩
  refine Call_ (ld_blt I hg hm boot_tuple (PyProof.Rows.callWith_type1 (args_cons (Call_ (ld_blt I hg2 hm2 PyProof.Rows.boot_zip (PyProof.Rows.callWith_type1 (thn (ha.run pos2 pins s σ H _ I h) fun us s1 ⟨vs, H1, I1, r1, q1⟩ => ?_) hs hpl))) na) na))
  obtain ⟨a, b, xs, ys, ex, sx, sy, hlen, q⟩ := q1
  subst ex
  cases r1 with
  | cons r rr =>
    cases rr with
    | cons r' rr =>
      cases rr
      cases r
      cases r'
      have hh := I1.ok.hd hc
      obtain ⟨us, o1, h1, rx, B1, hb1, l1, dr1⟩ := seq_draws I1 sx
      obtain ⟨vs, o2, h2, ry, B2, hb2, l2, dr2⟩ := seq_draws I1 sy
      refine zip_begins2 B1 B2 hb1 hb2 fun h' hz hTI hTO g1 g2 hsz hk => args_nil ?_
      obtain ⟨St1, D1, st1⟩ := dr1 X.A.in1.in1.in1.in1 s1.heap.objs.size hh (Nat.ne_of_lt l1)
      obtain ⟨St2, D2, st2⟩ := dr2 X.A.in1.in1.in1.in1 (s1.heap.objs.size + 1) hh (Nat.ne_of_lt (Nat.lt_succ_of_lt l2))
      have S := zip_sep2 (N := s1.heap.objs.size) (fp1 := [a]) (fp2 := [b]) (by intro c hc; rw [List.mem_singleton] at hc; rw [hc]; exact l1) (by intro c hc; rw [List.mem_singleton] at hc; rw [hc]; exact l2)
      refine call_tuple_zip (A := X.A) (s := { s1 with heap := h' }) S D1 D2 rfl (by rw [← rx.length, ← ry.length]; exact hlen) ?_ ?_ hz hTI hTO (st1 _ g1 hk) (st2 _ g2 hk) fun h'' tk acc hk' hl hp => ?_
      · intro c hc
        show c < h'.objs.size
        rw [hsz]
        simp only [List.mem_cons, List.not_mem_nil, or_false] at hc
        rcases hc with rfl | rfl
        · exact Nat.lt_add_of_pos_right (by decide)
        · exact Nat.lt_of_lt_of_le l1 (Nat.le_add_right _ _)
      · intro c hc
        show c < h'.objs.size
        rw [hsz]
        simp only [List.mem_cons, List.not_mem_nil, or_false] at hc
        rcases hc with rfl | rfl
        · exact Nat.add_lt_add_left (by decide) _
        · exact Nat.lt_of_lt_of_le l2 (Nat.le_add_right _ _)
      · have hle : s1.heap.objs.size ≤ h'.objs.size := by rw [hsz]; exact Nat.le_add_right _ _
        have kk : ∀ c u, s1.heap.get? c = some u → (h''.push { cls := .type "tuple", data := .seq acc }).get? c = some u := fun c u q => by
          have := Heap.lt_size q
          exact Heap.get?_push_of_some _ (hk' c u (fun z => by rw [z] at this; exact absurd this (Nat.not_lt.mpr (Nat.le_add_right _ _))) (fun z => by rw [z] at this; exact absurd this (Nat.not_lt.mpr (Nat.le_add_right _ _))) (fun z => by rw [z] at this; exact Nat.lt_irrefl _ this) (fun z => by rw [z] at this; exact absurd this (Nat.not_lt.mpr (Nat.le_add_right _ _))) (hk c u q))
        have hp' : Pairs2 (fun i v => us[i]? = some v) (fun i v => vs[i]? = some v) h'.objs.size acc (min us.length vs.length) (h''.push { cls := .type "tuple", data := .seq acc }) := ⟨hp.1, fun j v ev => by
          obtain ⟨T, x, y, q1, q2, q3, q4, q5⟩ := hp.2 j v ev
          exact ⟨T, x, y, q1, q2, q3, Heap.get?_push_of_some _ q4, q5⟩⟩
        obtain ⟨H2, I2, zz⟩ := zip_inv (o := .tup) (p := h''.objs.size) (tk := tk) I1 rx ry kk hle (Nat.le_trans hle hl) hp' (fun j v ev => by
          obtain ⟨T, _, _, rfl, _, _, q4, hT⟩ := hp.2 j v ev
          intro z; cases z
          exact Nat.lt_irrefl _ (Heap.lt_size q4)) (fun H' ts ht => ⟨by rw [List.length_map]; have := hp.1; rw [← Array.length_toList, ht, List.length_map] at this; rw [this, ← rx.length, ← ry.length, sizeLine_eq]; omega, acc.toList, by rw [ht]; exact vals_refs ts, by rw [Array.toArray_toList]; exact IsTup.new _ _⟩)
        exact ⟨.ref h''.objs.size, H2, I2, rfl, q _ _ zz⟩
end
/-! the plain side -/
def eZp (k : List PyData → PyData) (a : SA) : SE := fun ρ M => (a ρ M).bind fun x => match x.1 with
  | [.dat d, .dat e] => (seqD d).bind fun xs => (seqD e).bind fun ys => if min xs.length ys.length ≤ 100000 then some (.dat (k (zipD xs ys)), x.2) else none
  | _ => none
section
variable {K : PySem.W.Frag}
theorem seq_of {G : Hp} {v : V} {d : PyData} {ds : List PyData} (h : Dq K G v d) (e : seqD d = some ds) : ∃ a xs, v = .ref a ∧ SqA K G a xs ∧ DqAll K G xs ds := by
  cases h with
  | lst hs ha => cases e; exact ⟨_, _, rfl, .inl hs, ha⟩
  | tup hs ha => cases e; exact ⟨_, _, rfl, .inr hs, ha⟩
  | _ => cases e
theorem sqA_mono {G H : Hp} {a : Addr} {xs : List V} (e : Same G H) (h : SqA K G a xs) : SqA K H a xs := by
  rcases h with h | h
  · exact .inl (e.seq h)
  · exact .inr (same_sqT e h)
open Classical in
/-- several new objects that nobody changes -/
theorem Rel.als {F : Hp} {π : List Addr} {G H H2 : Hp} {M : Mem} (r : Rel K F π G H M) (e : Same H H2) : ∃ G2, Same G G2 ∧ (∀ a o, H a = none → H2 a = some o → G2 a = some o) ∧ Rel K F π G2 H2 M := by
  refine ⟨fun a => if H a = none then H2 a else G a, fun a o q => ?_, fun a o q1 q2 => by simp only [q1, if_true, q2], ?_⟩
  · have := r.ex a o q
    simp only [this, reduceCtorEq, if_false, q]
  have sg : Same G (fun a => if H a = none then H2 a else G a) := fun a o q => by
    have := r.ex a o q
    simp only [this, reduceCtorEq, if_false, q]
  refine ⟨fun a o q => ?_, fun a o q => ?_, r.len, fun i xs q => ?_, r.inj, r.wf⟩
  · by_cases h : H a = none
    · simp only [h, if_true] at q; exact q
    · simp only [h, if_false] at q; exact e _ _ (r.ex _ _ q)
  · obtain ⟨h1, h2⟩ := r.fr a o q
    refine ⟨e _ _ h1, ?_⟩
    simp only [h1, reduceCtorEq, if_false, h2]
  · obtain ⟨a, vs, h1, h2, h3, h4, h5⟩ := r.mem i xs q
    refine ⟨a, vs, h1, h2, ?_, e _ _ h4, h5.mono0 sg⟩
    simp only [h4, reduceCtorEq, if_false, h3]
theorem zip_all {G : Hp} {xs ys : List V} {ds es : List PyData} {ts : List Addr} (hx : DqAll K G xs ds) (hy : DqAll K G ys es) (hl : ts.length = min xs.length ys.length) (h : ∀ (j : Nat) (T : Addr) (x y : V), ts[j]? = some T → xs[j]? = some x → ys[j]? = some y → G T = some (.tup [x, y])) : DqAll K G (ts.map V.ref) (zipD ds es) := by
  induction ts generalizing xs ys ds es with
  | nil =>
    cases hx with
    | nil => exact .nil
    | cons h1 h2 =>
      cases hy with
      | nil => exact .nil
      | cons _ _ => simp at hl
  | cons T ts ih =>
    cases hx with
    | nil => simp at hl
    | cons h1 h2 =>
      cases hy with
      | nil => simp at hl
      | cons h3 h4 => exact .cons (.tup (SqT.of (h 0 T _ _ rfl rfl rfl)) (.cons h1 (.cons h3 .nil))) (ih h2 h4 (by simp only [List.length_cons] at hl; omega) fun j T x y e1 e2 e3 => h (j + 1) T x y (by simpa using e1) (by simpa using e2) (by simpa using e3))
theorem ev_zp {o : List V → HO} {k : List PyData → PyData} {t : TA} {as : SA} (ho : ∀ (G : Hp) p vs ds, G p = some (o vs) → DqAll K G vs ds → Dq K G (.ref p) (k ds)) (hs : EvA K t as) : EvS K (tZipC K o t) (eZp k as) := by
  intro ρ M r M' h F π G H σ rel sl Q q
  unfold eZp at h
  obtain ⟨⟨x, M1⟩, h1, h⟩ := Option.bind_eq_some_iff.mp h
  dsimp only at h
  split at h
  · rename_i d e'
    obtain ⟨ds, f1, h⟩ := Option.bind_eq_some_iff.mp h
    obtain ⟨es, f2, h⟩ := Option.bind_eq_some_iff.mp h
    split at h
    · rename_i hz
      cases h
      refine hs ρ M _ _ h1 F π G H σ rel sl _ fun π' G' H' v g rel' sv => ?_
      cases sv with
      | cons s1 sv =>
        cases sv with
        | cons s2 sv =>
          cases sv
          cases s1 with
          | dat d1 =>
            cases s2 with
            | dat d2 =>
              obtain ⟨a, xs, rfl, sx, ax⟩ := seq_of d1 f1
              obtain ⟨b, ys, rfl, sy, ay⟩ := seq_of d2 f2
              refine ⟨a, b, xs, ys, rfl, sqA_mono rel'.ex sx, sqA_mono rel'.ex sy, by rw [ax.length, ay.length]; exact hz, fun p H2 zz => ?_⟩
              obtain ⟨G2, g1, g2, rel2⟩ := rel'.als zz.same
              obtain ⟨ts, z1, z2, z3⟩ := zz.all
              have fr : ∀ (j : Nat) (T : Addr) (x y : V), ts[j]? = some T → xs[j]? = some x → ys[j]? = some y → G2 T = some (.tup [x, y]) := fun j T x y e1 e2 e3 => by
                obtain ⟨n1, n2⟩ := z3 j T x y e1 e2 e3
                exact g2 _ _ n1 n2
              refine q π' G2 H2 (.ref p) (g.trans (.of g1)) rel2 (.dat (ho G2 p _ _ (g2 _ _ zz.new z2) (zip_all (ax.mono g1) (ay.mono g1) z1 fr)))
    · cases h
  · cases h
theorem ev_zpL {t : TA} {as : SA} (hs : EvA K t as) : EvS K (tZipC K .lst t) (eZp .list as) := ev_zp (fun G p vs ds h ha => .lst (SqL.of h) ha) hs
theorem ev_zpT {t : TA} {as : SA} (hs : EvA K t as) : EvS K (tZipC K .tup t) (eZp .tuple as) := ev_zp (fun G p vs ds h ha => .tup (SqT.of h) ha) hs
end
end Sm

/-! SmY: min, max of two; sorted lists of pairs. -/
namespace Sm
open PySem PySem.Spec PyProof.Rows L2
section
variable {K : PySem.W.Frag}
def fMin2 : Mem → List SV → Option SV := fun _ xs => match xs with
  | [.dat (.int i), .dat (.int j)] => some (.dat (.int (if j < i then j else i)))
  | _ => none
def fMax2 : Mem → List SV → Option SV := fun _ xs => match xs with
  | [.dat (.int i), .dat (.int j)] => some (.dat (.int (if j > i then j else i)))
  | _ => none
theorem cs_min2 : CaS K (fun xs H Q => ∃ i j, xs = [.int i, .int j] ∧ Q (.int (if j < i then j else i)) H) fMin2 := by
  intro M x z e F π G H v R s Q q
  unfold fMin2 at e
  split at e
  · cases e
    cases s with
    | cons s1 s =>
      cases s with
      | cons s2 s =>
        cases s; cases s1 with
        | dat d1 => cases s2 with
          | dat d2 => cases d1; cases d2; exact ⟨_, _, rfl, q G H _ .same (.dat (.int _))⟩
  · cases e
theorem cs_max2 : CaS K (fun xs H Q => ∃ i j, xs = [.int i, .int j] ∧ Q (.int (if j > i then j else i)) H) fMax2 := by
  intro M x z e F π G H v R s Q q
  unfold fMax2 at e
  split at e
  · cases e
    cases s with
    | cons s1 s =>
      cases s with
      | cons s2 s =>
        cases s; cases s1 with
        | dat d1 => cases s2 with
          | dat d2 => cases d1; cases d2; exact ⟨_, _, rfl, q G H _ .same (.dat (.int _))⟩
  · cases e
/-! pairs by their order -/
abbrev Lx (p q : Int × Int) : Prop := SrtO.lexB q p = false
def insP (x : Int × Int) : List (Int × Int) → List (Int × Int)
  | [] => [x]
  | y :: r => if SrtO.lexB y x = false then x :: y :: r else y :: insP x r
def srtP : List (Int × Int) → List (Int × Int)
  | [] => []
  | x :: r => insP x (srtP r)
theorem lx_trans {a b c : Int × Int} (h1 : Lx a b) (h2 : Lx b c) : Lx a c := by
  have a1 := SrtO.lexB_no.mp h1
  have a2 := SrtO.lexB_no.mp h2
  exact SrtO.lexB_no.mpr (by omega)
theorem lx_eq {a b : Int × Int} (h1 : Lx a b) (h2 : Lx b a) : a = b := by
  have a1 := SrtO.lexB_no.mp h1
  have a2 := SrtO.lexB_no.mp h2
  obtain ⟨a, a'⟩ := a
  obtain ⟨b, b'⟩ := b
  simp only at a1 a2
  have : a = b ∧ a' = b' := by omega
  rw [this.1, this.2]
theorem insP_perm (x : Int × Int) : ∀ l, (insP x l).Perm (x :: l)
  | [] => List.Perm.refl _
  | y :: r => by
    unfold insP
    split
    · exact List.Perm.refl _
    · exact ((insP_perm x r).cons y).trans (List.Perm.swap x y r)
theorem srtP_perm : ∀ l, (srtP l).Perm l
  | [] => List.Perm.refl _
  | x :: r => (insP_perm x (srtP r)).trans ((srtP_perm r).cons x)
theorem insP_sorted (x : Int × Int) : ∀ l, l.Pairwise Lx → (insP x l).Pairwise Lx
  | [], _ => List.pairwise_singleton _ _
  | y :: r, h => by
    obtain ⟨h1, h2⟩ := List.pairwise_cons.mp h
    unfold insP
    split
    · rename_i hx
      refine List.pairwise_cons.mpr ⟨fun z hz => ?_, h⟩
      rcases List.mem_cons.mp hz with e | e
      · rw [e]; exact hx
      · exact lx_trans hx (h1 z e)
    · rename_i hx
      refine List.pairwise_cons.mpr ⟨fun z hz => ?_, insP_sorted x r h2⟩
      rcases List.mem_cons.mp ((insP_perm x r).mem_iff.mp hz) with e | e
      · rw [e]
        have hx' : SrtO.lexB y x = true := by cases q : SrtO.lexB y x <;> simp_all
        have := SrtO.lexB_iff.mp hx'
        exact SrtO.lexB_no.mpr (by omega)
      · exact h1 z e
theorem srtP_sorted : ∀ l, (srtP l).Pairwise Lx
  | [] => List.Pairwise.nil
  | x :: r => insP_sorted x _ (srtP_sorted r)
theorem sortedP_eq : ∀ {a b : List (Int × Int)}, a.Perm b → a.Pairwise Lx → b.Pairwise Lx → a = b
  | [], _, p, _, _ => (List.Perm.nil_eq p)
  | x :: a, [], p, _, _ => by have := p.length_eq; simp at this
  | x :: a, y :: b, p, ha, hb => by
    obtain ⟨a1, a2⟩ := List.pairwise_cons.mp ha
    obtain ⟨b1, b2⟩ := List.pairwise_cons.mp hb
    have e : x = y := by
      rcases List.mem_cons.mp (p.mem_iff.mp List.mem_cons_self) with e | e
      · exact e
      · rcases List.mem_cons.mp (p.mem_iff.mpr List.mem_cons_self) with f | f
        · exact f.symm
        · exact lx_eq (a1 y f) (b1 x e)
    subst e
    rw [sortedP_eq (List.Perm.cons_inv p) a2 b2]
/-! sorted(..) of a list of pairs -/
def rSrtQ (K : PySem.W.Frag) : V → Hp → VK → Prop := fun x H Q => ∃ (a : Addr) (xs : List V) (ps : List (Int × Int)), x = .ref a ∧ SqL K H a xs ∧ xs.length = ps.length ∧ (∀ z ∈ xs.zip ps, ∃ t, z.1 = V.ref t ∧ SqT K H t [.int z.2.1, .int z.2.2]) ∧
  ∀ (zs : List (V × (Int × Int))) (p : Addr), zs.Perm (xs.zip ps) → (zs.map Prod.snd).Pairwise Lx → H p = none → Q (.ref p) (upd H p (.lst (zs.map Prod.fst)))
open Classical in
theorem call_sortQ {X : Cx} : CallR X (.builtin "sorted") (fun xs H Q => ∃ x, xs = [x] ∧ rSrtQ X.K x H Q) := by
  intro pins s σ H vs us Q I r h
  obtain ⟨x, rfl, a, xs, ps, rfl, hs, hl, hx, q⟩ := h
  obtain ⟨its, rv, pl, hz⟩ := I.list hs
  obtain ⟨u, rfl, ru⟩ := vals1 r
  obtain rfl : u = Value.ref a := ru
  obtain ⟨k, hk⟩ : ∃ k : V → Int × Int, ∀ z ∈ xs.zip ps, k z.1 = z.2 := by
    refine ⟨fun v => if h : ∃ c : Int × Int, (v, c) ∈ xs.zip ps then h.choose else (0, 0), fun z hz' => ?_⟩
    have hc : ∃ c : Int × Int, (z.1, c) ∈ xs.zip ps := ⟨z.2, hz'⟩
    show (if h : ∃ c : Int × Int, (z.1, c) ∈ xs.zip ps then h.choose else (0, 0)) = z.2
    rw [dif_pos hc]
    obtain ⟨t, e1, f1⟩ := hx _ hz'
    obtain ⟨t', e2, f2⟩ := hx _ hc.choose_spec
    have e : V.ref t = V.ref t' := e1.symm.trans e2
    cases e
    have := I.tuple_inj f2 f1
    simp only [List.cons.injEq, V.int.injEq, and_true] at this
    exact Prod.ext this.1 this.2
  have hzip : xs.zip ps = xs.map fun v => (v, k v) := by
    clear hx q rv hs hz
    induction xs generalizing ps with
    | nil => rfl
    | cons v xs ih =>
      cases ps with
      | nil => simp at hl
      | cons c ps =>
        have h1 : k v = c := hk (v, c) (by simp)
        rw [List.zip_cons_cons, List.map_cons, h1, ih ps (by simpa using hl) fun z hz => hk z (by rw [List.zip_cons_cons]; exact List.mem_cons_of_mem _ hz)]
  have ref_of : ∀ v ∈ xs, ∃ t, v = V.ref t ∧ SqT X.K H t [.int (k v).1, .int (k v).2] := fun v hv => by
    have : (v, k v) ∈ xs.zip ps := by rw [hzip]; exact List.mem_map.mpr ⟨v, hv, rfl⟩
    exact hx _ this
  obtain ⟨e1, e2⟩ := refs_back rv fun v m => let ⟨t, e, _⟩ := ref_of v m; ⟨t, e⟩
  refine SrtO.sorted_pairsO (k := fun u => k (backV u)) pl.isList (by rw [← rv.length]; exact hz) (fun v hv => ?_) fun h' d out h1 h2 kp hd hn => ?_
  · obtain ⟨t, rfl⟩ := e2 v hv
    obtain ⟨t', e, ht⟩ := ref_of (V.ref t) (by rw [e1]; exact List.mem_map.mpr ⟨_, hv, rfl⟩)
    cases e
    obtain ⟨its2, r2, ⟨o, ho, hc, n, hd⟩, _⟩ := I.tuple ht
    obtain ⟨u1, u2, rfl, ⟨t1, rfl⟩, ⟨t2, rfl⟩⟩ := vals2 r2
    exact ⟨t, o, t1, t2, n, rfl, ho, hc, hd⟩
  · obtain ⟨n, hn⟩ := hn
    have h3 : ∀ u ∈ out, ∃ a, u = Value.ref a := fun u hu => e2 u (h2.perm.mem_iff.mp hu)
    have hpm : (out.map backV).Perm xs := by rw [e1]; exact h2.perm.map backV
    have hq := q ((out.map backV).map fun v => (v, k v)) d (by rw [hzip]; exact hpm.map _) (by
      rw [List.map_map, List.pairwise_map]
      exact SrtO.srtd_map h1) (I.hok.fresh hd)
    have e3 : ((out.map backV).map fun v => (v, k v)).map Prod.fst = out.map backV := by rw [List.map_map]; exact List.map_id _
    rw [e3] at hq
    exact ⟨.ref d, upd H d (.lst (out.map backV)), I.laid (t' := s.toks) kp hd ⟨by rw [hpm.length_eq]; exact hz, out, n, vals_back h3, hn⟩, rfl, hq⟩
def pairsOf : List PyData → Option (List (Int × Int))
  | [] => some []
  | .tuple [.int i, .int j] :: r => (pairsOf r).bind fun ps => some ((i, j) :: ps)
  | _ => none
def fSortP : Mem → SV → Option SV := fun _ x => match x with
  | .dat (.list ds) => (pairsOf ds).bind fun ps => some (.dat (.list ((srtP ps).map fun q => PyData.tuple [.int q.1, .int q.2])))
  | _ => none
theorem pairs_dq {G : Hp} : ∀ {ds : List PyData} {ps : List (Int × Int)} {xs : List V}, pairsOf ds = some ps → DqAll K G xs ds → xs.length = ps.length ∧ ∀ z ∈ xs.zip ps, ∃ t, z.1 = V.ref t ∧ SqT K G t [.int z.2.1, .int z.2.2]
  | [], ps, xs, h, d => by
    cases d; cases h
    exact ⟨rfl, by simp⟩
  | d :: ds, ps, xs, h, dq => by
    unfold pairsOf at h
    split at h
    · rename_i e; cases e
    · rename_i i j r e
      cases e
      obtain ⟨qs, h1, h2⟩ := Option.bind_eq_some_iff.mp h
      cases h2
      cases dq with
      | cons d1 d2 =>
        obtain ⟨l1, l2⟩ := pairs_dq h1 d2
        refine ⟨by simp [l1], fun z hz => ?_⟩
        rw [List.zip_cons_cons] at hz
        rcases List.mem_cons.mp hz with e | e
        · subst e
          cases d1 with
          | tup hs ha =>
            cases ha with
            | cons b1 ha =>
              cases ha with
              | cons b2 ha =>
                cases ha; cases b1; cases b2
                exact ⟨_, rfl, hs⟩
        · exact l2 z e
    · cases h
theorem us_sortP : UnS K (rSrtQ K) fSortP := by
  intro M x z e F π G H v R s Q q
  unfold fSortP at e
  split at e
  · rename_i ds
    obtain ⟨ps, h1, h2⟩ := Option.bind_eq_some_iff.mp e
    cases h2
    cases s with
    | dat d =>
      cases d with
      | lst hs ha =>
        rename_i a xs
        obtain ⟨l1, l2⟩ := pairs_dq h1 ha
        refine ⟨a, xs, ps, rfl, R.ex.seq hs, l1, fun z hz => ?_, fun zs p hp hso hn => ?_⟩
        · obtain ⟨t, e1, e2⟩ := l2 z hz
          exact ⟨t, e1, same_sqT R.ex e2⟩
        · have sg : Same G (upd G p (.lst (zs.map Prod.fst))) := same_upd (none_of_same R.ex hn)
          have hps : (zs.map Prod.snd) = srtP ps := by
            refine sortedP_eq ?_ hso (srtP_sorted ps)
            have : (zs.map Prod.snd).Perm ps := by
              have := hp.map Prod.snd
              rwa [List.map_snd_zip (Nat.le_of_eq l1.symm)] at this
            exact this.trans (srtP_perm ps).symm
          refine q (upd G p (.lst (zs.map Prod.fst))) _ _ (.new hn) (.dat (.lst (SqL.of upd_same) ?_))
          rw [← hps]
          have all : ∀ z ∈ zs, ∃ t, z.1 = V.ref t ∧ SqT K G t [.int z.2.1, .int z.2.2] := fun z hz => l2 z (hp.mem_iff.mp hz)
          clear hp hso hps hn
          have : ∀ (W : Hp), Same G W → ∀ zs : List (V × (Int × Int)), (∀ z ∈ zs, ∃ t, z.1 = V.ref t ∧ SqT K G t [.int z.2.1, .int z.2.2]) → DqAll K W (zs.map Prod.fst) ((zs.map Prod.snd).map fun q => PyData.tuple [.int q.1, .int q.2]) := by
            intro W sw zs
            induction zs with
            | nil => intro _; exact .nil
            | cons z zs ih =>
              intro h
              obtain ⟨t, e1, e2⟩ := h z List.mem_cons_self
              rw [List.map_cons, List.map_cons, List.map_cons, e1]
              exact .cons (.tup (same_sqT sw e2) (.cons (.int _) (.cons (.int _) .nil))) (ih fun y hy => h y (List.mem_cons_of_mem _ hy))
          exact this _ sg zs all
  · cases e
end
end Sm

/-! SmX: lists that change: pop(i), insert(i, x), extend(list); is not None. -/
namespace Sm
open PySem PySem.Spec PyProof.Rows L2
section
variable {K : PySem.W.Frag}
theorem Svs.eraseIdx {π : List Addr} {G : Hp} : ∀ {s : List SV} {v : List V} (i : Nat), Svs K π G s v → Svs K π G (s.eraseIdx i) (v.eraseIdx i)
  | _, _, _, .nil => .nil
  | _, _, 0, .cons _ r => r
  | _, _, i + 1, .cons q r => .cons q (r.eraseIdx i)
theorem Svs.take {π : List Addr} {G : Hp} : ∀ {s : List SV} {v : List V} (i : Nat), Svs K π G s v → Svs K π G (s.take i) (v.take i)
  | _, _, 0, _ => .nil
  | _, _, _ + 1, .nil => .nil
  | _, _, i + 1, .cons q r => .cons q (r.take i)
theorem Svs.drop {π : List Addr} {G : Hp} : ∀ {s : List SV} {v : List V} (i : Nat), Svs K π G s v → Svs K π G (s.drop i) (v.drop i)
  | _, _, 0, r => r
  | _, _, _ + 1, .nil => .nil
  | _, _, i + 1, .cons _ r => r.drop i
def ePop (o i : SE) : SE := fun ρ M => (o ρ M).bind fun x => (i ρ x.2).bind fun y => match x.1 with
  | .cel j => match x.2[j]?, y.2[j]?, y.1 with
    | some (some _), some (some xs), .dat (.int k) => if -(2 ^ 63) ≤ k ∧ k < 2 ^ 63 then (ixN xs.length k).bind fun m => (xs[m]?).bind fun z => some (z, y.2.set j (some (xs.eraseIdx m))) else none
    | _, _, _ => none
  | _ => none
theorem ev_pop {to ti : TE} {o i : SE} (ho : EvS K to o) (hi : EvS K ti i) : EvS K (tBM K "list" rPopAt to (tCons ti tNil)) (ePop o i) := by
  intro ρ M r M' h F π G H σ R S Q q
  unfold ePop at h
  obtain ⟨⟨x, M1⟩, h1, h⟩ := Option.bind_eq_some_iff.mp h
  obtain ⟨⟨y, M2⟩, h2, h⟩ := Option.bind_eq_some_iff.mp h
  cases x with
  | dat _ => cases h
  | cel j =>
    dsimp only at h
    split at h
    · rename_i xs0 xs k hx0 hx
      split at h
      · rename_i hk
        obtain ⟨m, hm, h⟩ := Option.bind_eq_some_iff.mp h
        obtain ⟨z, hz, h⟩ := Option.bind_eq_some_iff.mp h
        cases h
        refine ho ρ M _ M1 h1 F π G H σ R S _ fun π1 G1 H1 v1 g1 R1 s1 => ?_
        cases s1 with
        | @cel _ a ea =>
          refine ⟨?_, ?_⟩
          · obtain ⟨b, ws, p1, p2, p3, p4, p5⟩ := R1.mem j xs0 hx0
            rw [ea] at p1; cases p1
            exact .inl ⟨rfl, _, SqL.of p4⟩
          · refine hi ρ M1 _ M2 h2 F π1 G1 H1 σ R1 (S.gr g1) _ fun π2 G2 H2 v2 g2 R2 s2 => ?_
            obtain ⟨gs, more, rfl⟩ := g2
            obtain ⟨a', vs, p1, p2, p3, p4, p5⟩ := R2.mem j xs hx
            rw [ix_app ea] at p1; cases p1
            cases s2 with
            | dat d2 =>
              cases d2
              obtain ⟨w, hw, sw⟩ := p5.get hz
              refine ⟨a, vs, k, m, w, rfl, rfl, p4, hk.1, hk.2, by rw [← p5.length]; exact (ixN_seq hm).1, hw, ?_⟩
              exact q _ G2 _ w (g1.trans ⟨gs, more, rfl⟩) (R2.write hx (ix_app ea) (p5.eraseIdx m) fun c hc => List.mem_of_mem_eraseIdx hc) sw
      · cases h
    · cases h
def cellAt (M : Mem) (v : SV) : Option (Nat × List SV) := match v with
  | .cel j => match M[j]? with
    | some (some xs) => some (j, xs)
    | _ => none
  | _ => none
theorem cellAt_some {M : Mem} {v : SV} {j : Nat} {xs : List SV} (h : cellAt M v = some (j, xs)) : v = .cel j ∧ M[j]? = some (some xs) := by
  unfold cellAt at h
  split at h
  · split at h
    · rename_i e; cases h; exact ⟨rfl, e⟩
    · cases h
  · cases h
theorem cellAt_eq {M : Mem} {j : Nat} {xs : List SV} (h : M[j]? = some (some xs)) : cellAt M (.cel j) = some (j, xs) := by simp only [cellAt, h]
def intV : SV → Option Int
  | .dat (.int k) => some k
  | _ => none
def datV : SV → Option PyData
  | .dat d => some d
  | _ => none
theorem intV_some {v : SV} {k : Int} (h : intV v = some k) : v = .dat (.int k) := by
  unfold intV at h
  split at h
  · cases h; rfl
  · cases h
theorem datV_some {v : SV} {d : PyData} (h : datV v = some d) : v = .dat d := by
  unfold datV at h
  split at h
  · cases h; rfl
  · cases h
def sIns (o i a : SE) : SS := fun ρ M => (o ρ M).bind fun x => (i ρ x.2).bind fun y => (a ρ y.2).bind fun z => (cellAt x.2 x.1).bind fun c => (cellAt z.2 x.1).bind fun c2 => (intV y.1).bind fun k => (datV z.1).bind fun d =>
  if 0 ≤ k ∧ k < 2 ^ 63 ∧ c2.2.length < 100000 then some (.nx ρ (z.2.set c2.1 (some (c2.2.take k.toNat ++ [.dat d] ++ c2.2.drop k.toNat)))) else none
def rIns1 : V → List V → Hp → VK → Prop := fun x vs H Q => ∃ (l : Addr) (xs : List V) (i : Int) (y : V), x = .ref l ∧ vs = [.int i, y] ∧ H l = some (.lst xs) ∧ xs.length < sizeLine ∧ 0 ≤ i ∧ i < 2 ^ 63 ∧ Q .non (upd H l (.lst (xs.take i.toNat ++ [y] ++ xs.drop i.toNat)))
theorem mt_ins1 {X : Cx} : MtR X "list.insert" rIns1 := mt_insert
theorem et_ins {to ti ta : TE} {o i a : SE} (ho : EvS K to o) (hi : EvS K ti i) (ha : EvS K ta a) : EvT K (tDrop (tBM K "list" rIns1 to (tCons ti (tCons ta tNil)))) (sIns o i a) := by
  intro ρ M c h F π G H σ R S D q
  unfold sIns at h
  obtain ⟨⟨x, M1⟩, h1, h⟩ := Option.bind_eq_some_iff.mp h
  obtain ⟨⟨y, M2⟩, h2, h⟩ := Option.bind_eq_some_iff.mp h
  obtain ⟨⟨z, M3⟩, h3, h⟩ := Option.bind_eq_some_iff.mp h
  obtain ⟨⟨j0, xs0⟩, c1, h⟩ := Option.bind_eq_some_iff.mp h
  obtain ⟨⟨j, xs⟩, c2, h⟩ := Option.bind_eq_some_iff.mp h
  obtain ⟨k, c3, h⟩ := Option.bind_eq_some_iff.mp h
  obtain ⟨d, c4, hh⟩ := Option.bind_eq_some_iff.mp h
  clear h
  dsimp only at h1 h2 h3 c1 c2 c3 c4 hh
  obtain ⟨rfl, hx0⟩ := cellAt_some c1
  obtain ⟨e, hx⟩ := cellAt_some c2
  cases e
  have e3 := intV_some c3
  have e4 := datV_some c4
  subst e3 e4
  split at hh
  · rename_i hk
    cases hh
    refine ho ρ M _ M1 h1 F π G H σ R S _ fun π1 G1 H1 v1 g1 R1 s1 => ?_
    cases s1 with
    | @cel _ a ea =>
      refine ⟨?_, ?_⟩
      · obtain ⟨b, ws, p1, p2, p3, p4, p5⟩ := R1.mem j0 xs0 hx0
        rw [ea] at p1; cases p1
        exact .inl ⟨rfl, _, SqL.of p4⟩
      · refine hi ρ M1 _ M2 h2 F π1 G1 H1 σ R1 (S.gr g1) _ fun π2 G2 H2 v2 g2 R2 s2 => ?_
        refine ha ρ M2 _ M3 h3 F π2 G2 H2 σ R2 (S.gr (g1.trans g2)) _ fun π3 G3 H3 v3 g3 R3 s3 => ?_
        have g23 := g2.trans g3
        obtain ⟨gs, more, e⟩ := g23
        subst e
        obtain ⟨a', vs, p1, p2, p3, p4, p5⟩ := R3.mem j0 xs hx
        rw [ix_app ea] at p1; cases p1
        cases s2 with
        | dat d2 =>
          cases d2
          refine ⟨a, vs, k, v3, rfl, rfl, p4, szl (by rw [← p5.length]; exact hk.2.2), hk.1, hk.2.1, ?_⟩
          refine q _ G3 _ σ (g1.trans ⟨gs, more, rfl⟩) (R3.write hx (ix_app ea) (((p5.take k.toNat).append (.cons s3 .nil)).append (p5.drop k.toNat)) fun c hc => ?_) (S.gr (g1.trans ⟨gs, more, rfl⟩))
          rcases List.mem_append.mp hc with w | w
          · rcases List.mem_append.mp w with w | w
            · exact List.mem_of_mem_take w
            · rw [List.mem_singleton] at w; cases w
          · exact List.mem_of_mem_drop w
  · cases hh
/-- o.extend(a), a a list just made -/
def sExt (o a : SE) : SS := fun ρ M => (o ρ M).bind fun x => (a ρ x.2).bind fun y => (cellAt x.2 x.1).bind fun c => (cellAt y.2 x.1).bind fun c1 => (cellAt y.2 y.1).bind fun c2 => (dats c2.2).bind fun _ =>
  if c1.2.length + c2.2.length ≤ 100000 then some (.nx ρ (y.2.set c1.1 (some (c1.2 ++ c2.2)))) else none
theorem dats_nocel : ∀ {xs : List SV} {ds : List PyData}, dats xs = some ds → ∀ j, SV.cel j ∉ xs
  | [], _, _, j, h => by cases h
  | .dat d :: xs, ds, h, j, hm => by
    unfold dats at h
    obtain ⟨es, h1, h2⟩ := Option.bind_eq_some_iff.mp h
    rcases List.mem_cons.mp hm with e | e
    · cases e
    · exact dats_nocel h1 j e
  | .cel i :: xs, ds, h, j, hm => by cases h
theorem et_ext {to ta : TE} {o a : SE} (ho : EvS K to o) (ha : EvS K ta a) : EvT K (tDrop (tBM K "list" rExtend to (tCons ta tNil))) (sExt o a) := by
  intro ρ M c h F π G H σ R S D q
  unfold sExt at h
  obtain ⟨⟨x, M1⟩, h1, h⟩ := Option.bind_eq_some_iff.mp h
  obtain ⟨⟨y, M2⟩, h2, h⟩ := Option.bind_eq_some_iff.mp h
  obtain ⟨⟨j0, xs0⟩, c1, h⟩ := Option.bind_eq_some_iff.mp h
  obtain ⟨⟨j, xs⟩, c2, h⟩ := Option.bind_eq_some_iff.mp h
  obtain ⟨⟨k, zs⟩, c3, h⟩ := Option.bind_eq_some_iff.mp h
  obtain ⟨ds, c4, hh⟩ := Option.bind_eq_some_iff.mp h
  clear h
  dsimp only at h1 h2 c1 c2 c3 c4 hh
  obtain ⟨rfl, hx0⟩ := cellAt_some c1
  obtain ⟨e, hx⟩ := cellAt_some c2
  cases e
  obtain ⟨rfl, hz⟩ := cellAt_some c3
  split at hh
  · rename_i hk
    cases hh
    refine ho ρ M _ M1 h1 F π G H σ R S _ fun π1 G1 H1 v1 g1 R1 s1 => ?_
    cases s1 with
    | @cel _ a ea =>
      refine ⟨?_, ?_⟩
      · obtain ⟨b, ws, p1, p2, p3, p4, p5⟩ := R1.mem j0 xs0 hx0
        rw [ea] at p1; cases p1
        exact .inl ⟨rfl, _, SqL.of p4⟩
      · refine ha ρ M1 _ M2 h2 F π1 G1 H1 σ R1 (S.gr g1) _ fun π2 G2 H2 v2 g2 R2 s2 => ?_
        obtain ⟨gs, more, rfl⟩ := g2
        obtain ⟨a', vs, p1, p2, p3, p4, p5⟩ := R2.mem j0 xs hx
        rw [ix_app ea] at p1; cases p1
        cases s2 with
        | @cel _ b eb =>
          obtain ⟨b', ws, r1, r2, r3, r4, r5⟩ := R2.mem k zs hz
          rw [eb] at r1; cases r1
          refine ⟨a, b, vs, ws, rfl, rfl, p4, r4, sz (by rw [← p5.length, ← r5.length]; exact hk), ?_⟩
          refine q _ G2 _ σ (g1.trans ⟨gs, more, rfl⟩) (R2.write hx (ix_app ea) (p5.append r5) fun c hc => ?_) (S.gr (g1.trans ⟨gs, more, rfl⟩))
          rcases List.mem_append.mp hc with w | w
          · exact w
          · exact absurd w (dats_nocel c4 c)
  · cases hh
/-! is not None -/
def dNotN : PyData → PyData → Option PyData
  | .none, .none => some (.bool false)
  | .dict _, .none => some (.bool true)
  | .list _, .none => some (.bool true)
  | .tuple _, .none => some (.bool true)
  | .int _, .none => some (.bool true)
  | .str _, .none => some (.bool true)
  | .bool _, .none => some (.bool true)
  | _, _ => none
def rNotN' : R2 := fun x y H Q => y = .non ∧ Q (.bl (!decide (x = .non))) H
theorem os_notN : OpS K rNotN' (lift2 dNotN) := os_lift (by
  intro x y z e G H v w sm dx dy Q q
  cases dy <;> (cases dx <;> first | cases e | skip)
  all_goals exact ⟨rfl, q G H _ .same (.bl _)⟩)
end
end Sm

/-! SmX2: lists of lists that change. -/
namespace Sm
open PySem PySem.Spec PyProof.Rows L2
section
variable {K : PySem.W.Frag} {ta : TE} {a : SE}
/-- list(x) of a list or tuple held still: a new list that may change -/
def eLsN (a : SE) : SE := fun ρ M => (a ρ M).bind fun x => (items x.2 x.1).bind fun ds => some (.cel x.2.length, x.2 ++ [some (ds.map SV.dat)])
theorem ev_lsN {ta : TA} {a : SE} (ha : EvA K ta (aCons a aNil)) : EvS K (tCB (fun xs H Q => ∃ x, xs = [x] ∧ rLst1 K x H Q) ta) (eLsN a) := by
  intro ρ M r M' h F π G H σ R S Q q
  unfold eLsN at h
  obtain ⟨⟨x, M1⟩, h1, h⟩ := Option.bind_eq_some_iff.mp h
  obtain ⟨ds, h2, h⟩ := Option.bind_eq_some_iff.mp h
  cases h
  have h1' : aCons a aNil ρ M = some ([x], M1) := by simp only [aCons, h1, Option.bind_some, aNil]
  refine ha ρ M _ M1 h1' F π G H σ R S _ fun π1 G1 H1 v1 g1 R1 s1 => ?_
  cases s1 with
  | cons s1 s2 =>
    cases s2
    obtain ⟨p, ys, rfl, hs, hd⟩ := items_sq R1 s1 h2
    refine ⟨_, rfl, p, ys, rfl, hs, fun l hl => ?_⟩
    have hn : (π1 ++ [l])[M1.length]? = some l := by rw [List.getElem?_append_right (by rw [R1.len]; exact Nat.le_refl _), R1.len, Nat.sub_self]; rfl
    exact q (π1 ++ [l]) G1 _ _ (g1.trans ⟨Same.refl G1, [l], rfl⟩) (R1.push hl (Svs.ofD hd)) (.cel hn)
/-! a comprehension that makes lists that may change -/
def lcC (g : SG) (el : SE) (ρ : Rho) : List PyData → Mem → Option (List SV × Mem)
  | [], M => some ([], M)
  | d :: ds, M => (g (.dat d) ρ M).bind fun y => (el y.1 y.2).bind fun r => (lcC g el ρ ds r.2).bind fun z => some (r.1 :: z.1, z.2)
def eLcC (it : SI) (g : SG) (el : SE) (vs : List Nat) : SE := fun ρ M => (it ρ M).bind fun x => if x.1.length ≤ 100000 then (lcC g el (wipeR ρ vs) x.1 x.2).bind fun z => some (.cel z.2.length, z.2 ++ [some z.1]) else none
theorem ev_lcC {wi : TI} {g : TG} {it : SI} {sg : SG} {vs : List Nat} (hi : EvI K wi it) (hg : EvG K g sg) (hw : GW g vs) (he : EvS K ta a) : EvS K (tLc wi g tYes ta vs) (eLcC it sg a vs) := by
  intro ρ M z M' h F π G H σ R S Q q
  unfold eLcC at h
  obtain ⟨⟨ds, M1⟩, e, h⟩ := Option.bind_eq_some_iff.mp h
  split at h
  · rename_i hz
    dsimp only at hz
    obtain ⟨⟨out, M2⟩, e2, h⟩ := Option.bind_eq_some_iff.mp h
    cases h
    refine hi ρ M ds M1 e F π G H σ R S _ fun π1 G1 H1 J g1 R1 ok => ?_
    intro D hD
    have S1 := (S.gr g1).wiped vs
    have hF := R1.frNone hD
    let W : Nat → Hp → Prop := fun i H => ∃ M π' G' acc vs' rest, i ≤ ds.length ∧ vs'.length ≤ i ∧ Gr π1 π' G1 G' ∧ Rel K (upd F D (.lst vs')) π' G' H M ∧ Svs K π' G' acc vs' ∧ lcC sg a (wipeR ρ vs) (ds.drop i) M = some (rest, M2) ∧ out = acc ++ rest
    refine ⟨fun i m H => m = ds.length - i ∧ W i H, ⟨_, rfl, M1, π1, G1, [], [], out, Nat.zero_le _, Nat.le_refl _, Gr.refl, R1.frame hD, .nil, e2, rfl⟩, ?_⟩
    rintro i m H' ⟨rfl, M3, π', G', acc, vs', rest, hle, hvl, g', R', hacc, hl, ho⟩
    by_cases hlt : i < ds.length
    · refine .inr ⟨ok.go i H' (fun b o x => R'.ex b o (g'.s b o x)) hlt, W (i + 1), fun H'' w => ⟨ds.length - (i + 1), by omega, rfl, w⟩, fun x H'' y => ?_⟩
      obtain ⟨d, G3, e3, al, hd⟩ := ok.yld i H' x H'' G' g'.s R'.ex y hlt
      have ed : ds.drop i = d :: ds.drop (i + 1) := by
        rw [List.drop_eq_getElem_cons hlt]
        rw [List.getElem?_eq_getElem hlt] at e3
        cases e3; rfl
      rw [ed] at hl
      unfold lcC at hl
      obtain ⟨⟨ρ2, M4⟩, e4, hl⟩ := Option.bind_eq_some_iff.mp hl
      have ga := Gr.of (π := π') (R'.alSame al)
      have hwi : wipe (wipe σ vs) vs = wipe σ vs := wipe_wipe σ vs vs (fun v hv => hv)
      have key : ∀ Q' : L2.St → Hp → Prop, (∀ π4 G4 H4 σ4, Gr π' π4 G3 G4 → Rel K (upd F D (.lst vs')) π4 G4 H4 M4 → Slots K π4 G4 ρ2 σ4 → Q' σ4 H4) → g x (wipe σ vs) H'' fun σ2 H2 => wipe σ2 vs = wipe σ vs ∧ Q' σ2 H2 := by
        intro Q' hQ
        have := hw x (wipe σ vs) H'' Q' (hg (.dat d) (wipeR ρ vs) M3 ρ2 M4 e4 (upd F D (.lst vs')) π' G3 H'' x (wipe σ vs) (R'.al al) (S1.gr (g'.trans ga)) (.dat hd) Q' hQ)
        rw [hwi] at this
        exact this
      refine key _ fun π4 G4 H4 σ4 g4 R4 S4 => ?_
      have gg := (g'.trans ga).trans g4
      have gh := ga.trans g4
      refine eb_yes ρ2 M4 true M4 rfl _ π4 G4 H4 σ4 R4 S4 _ fun π5 G5 H5 g5 R5 => ?_
      rw [if_pos rfl]
      obtain ⟨⟨r, M6⟩, e6, hl⟩ := Option.bind_eq_some_iff.mp hl
      refine he ρ2 M4 r M6 e6 _ π5 G5 H5 σ4 R5 (S4.gr g5) _ fun π6 G6 H6 v6 g6 R6 s6 => ?_
      obtain ⟨⟨rest', M7⟩, e7, hl⟩ := Option.bind_eq_some_iff.mp hl
      cases hl
      have gt := (gh.trans g5).trans g6
      refine ⟨vs', (R6.fr D _ upd_same).1, szl (by omega), ?_⟩
      refine ⟨M6, π6, G6, acc ++ [r], vs' ++ [v6], rest', hlt, by rw [List.length_append]; simp; omega, (gg.trans g5).trans g6, ?_, (hacc.gr gt).append (.cons s6 .nil), e7, by rw [ho]; simp⟩
      have := R6.framed (o' := .lst (vs' ++ [v6])) upd_same
      rw [upd_upd] at this
      exact this
    · have e : ds.drop i = [] := List.drop_of_length_le (by omega)
      rw [e] at hl
      cases hl
      rw [List.append_nil] at ho
      subst ho
      refine .inl ⟨ok.stop i H' (fun b o x => R'.ex b o (g'.s b o x)) (by omega), ?_⟩
      refine q (π' ++ [D]) G' H' _ ((g1.trans g').trans ⟨Same.refl G', [D], rfl⟩) (R'.adopt hF hacc) (.cel ?_)
      show (π' ++ [D])[M2.length]? = some D
      rw [List.getElem?_append_right (by rw [R'.len]; exact Nat.le_refl _), R'.len, Nat.sub_self]; rfl
  · cases h
/-- a list that may change, so many times over: a new one -/
def eRepN (a b : SE) : SE := fun ρ M => (a ρ M).bind fun x => (b ρ x.2).bind fun y => (cellAt y.2 x.1).bind fun c => (intV y.1).bind fun k => (dats c.2).bind fun ds =>
  if 0 ≤ k ∧ k ≤ 1000 ∧ ds.length ≤ 100 then some (.cel y.2.length, y.2 ++ [some ((List.replicate k.toNat ds).flatten.map SV.dat)]) else none
theorem flat_len {α : Type} (xs : List α) : ∀ n : Nat, (List.replicate n xs).flatten.length = n * xs.length
  | 0 => by simp
  | n + 1 => by rw [List.replicate_succ, List.flatten_cons, List.length_append, flat_len xs n, Nat.succ_mul]; omega
theorem ev_repN {ta tb : TE} {a b : SE} (ha : EvS K ta a) (hb : EvS K tb b) : EvS K (tOp rRep ta tb) (eRepN a b) := by
  intro ρ M r M' h F π G H σ R S Q q
  unfold eRepN at h
  obtain ⟨⟨x, M1⟩, h1, h⟩ := Option.bind_eq_some_iff.mp h
  obtain ⟨⟨y, M2⟩, h2, h⟩ := Option.bind_eq_some_iff.mp h
  obtain ⟨⟨j, xs⟩, c1, h⟩ := Option.bind_eq_some_iff.mp h
  obtain ⟨k, c2, h⟩ := Option.bind_eq_some_iff.mp h
  obtain ⟨ds, c3, hh⟩ := Option.bind_eq_some_iff.mp h
  clear h
  dsimp only at h1 h2 c1 c2 c3 hh
  obtain ⟨rfl, hx⟩ := cellAt_some c1
  have e3 := intV_some c2
  subst e3
  split at hh
  · rename_i hk
    cases hh
    refine ha ρ M _ M1 h1 F π G H σ R S _ fun π1 G1 H1 v1 g1 R1 s1 => ?_
    refine hb ρ M1 _ M2 h2 F π1 G1 H1 σ R1 (S.gr g1) _ fun π2 G2 H2 v2 g2 R2 s2 => ?_
    have s1' := s1.gr g2
    cases s1' with
    | @cel _ a ea =>
      cases s2 with
      | dat d2 =>
        cases d2
        obtain ⟨a', vs, p1, p2, p3, p4, p5⟩ := R2.mem j xs hx
        rw [ea] at p1; cases p1
        have hd := dats_all c3 p5
        have hl : vs.length = ds.length := hd.length
        have hm : vs.length * k.toNat ≤ 100 * 1000 := Nat.mul_le_mul (by omega) (by omega)
        refine ⟨a, k, vs, rfl, rfl, p4, by omega, by omega, sz (by omega), fun l hn => ?_⟩
        have hn' : (π2 ++ [l])[M2.length]? = some l := by rw [List.getElem?_append_right (by rw [R2.len]; exact Nat.le_refl _), R2.len, Nat.sub_self]; rfl
        exact q (π2 ++ [l]) G2 _ _ ((g1.trans g2).trans ⟨Same.refl G2, [l], rfl⟩) (R2.push hn (Svs.ofD (DqAll.flat k.toNat hd))) (.cel hn')
  · cases hh
/-! a list of lists is held still from now on, its lists too -/
def frzAll : Mem → List SV → Option (List PyData × Mem)
  | M, [] => some ([], M)
  | M, .dat d :: r => (frzAll M r).bind fun z => some (d :: z.1, z.2)
  | M, .cel k :: r => (cellAt M (.cel k)).bind fun c => (dats c.2).bind fun ds => (frzAll (M.set k none) r).bind fun z => some (.list ds :: z.1, z.2)
theorem frz_core {F : Hp} {π : List Addr} {H : Hp} : ∀ (xs : List SV) {vs : List V} {G : Hp} {M M' : Mem} {ds : List PyData}, frzAll M xs = some (ds, M') → Rel K F π G H M → Svs K π G xs vs → ∃ G', Same G G' ∧ Rel K F π G' H M' ∧ DqAll K G' vs ds
  | [], vs, G, M, M', ds, h, R, s => by
    cases h; cases s
    exact ⟨G, Same.refl G, R, .nil⟩
  | .dat d :: r, vs, G, M, M', ds, h, R, s => by
    unfold frzAll at h
    obtain ⟨⟨es, M2⟩, h1, h2⟩ := Option.bind_eq_some_iff.mp h
    cases h2
    cases s with
    | cons s1 s2 =>
      cases s1 with
      | dat d1 =>
        obtain ⟨G', g1, R', da⟩ := frz_core r h1 R s2
        exact ⟨G', g1, R', .cons (d1.mono g1) da⟩
  | .cel k :: r, vs, G, M, M', ds, h, R, s => by
    unfold frzAll at h
    obtain ⟨⟨k', ys⟩, c1, h⟩ := Option.bind_eq_some_iff.mp h
    obtain ⟨es, c2, h⟩ := Option.bind_eq_some_iff.mp h
    obtain ⟨⟨fs, M2⟩, c3, h⟩ := Option.bind_eq_some_iff.mp h
    cases h
    obtain ⟨e, hk⟩ := cellAt_some c1
    cases e
    cases s with
    | cons s1 s2 =>
      cases s1 with
      | @cel _ a ea =>
        obtain ⟨a', ws, p1, p2, p3, p4, p5⟩ := R.mem k ys hk
        rw [ea] at p1; cases p1
        obtain ⟨R1, sg⟩ := R.freeze hk ea p4
        obtain ⟨G', g1, R', da⟩ := frz_core r c3 R1 (s2.mono0 sg)
        exact ⟨G', sg.trans g1, R', .cons (.lst (SqL.of (g1 _ _ upd_same)) ((dats_all c2 p5).mono (sg.trans g1))) da⟩
def sFrzD (i : Nat) (s : SS) : SS := fun ρ M => (s ρ M).bind fun c => match c with
  | .nx ρ' M' => match ρ'[i]? with
    | some (some (.cel j)) => (cellAt M' (.cel j)).bind fun c => (frzAll M' c.2).bind fun z => (cellAt z.2 (.cel j)).bind fun c2 => if c2.2.length = c.2.length then some (.nx (ρ'.set i (some (.dat (.list z.1)))) (z.2.set j none)) else none
    | _ => none
  | c => some c
theorem et_frzD {i : Nat} {s : SS} {t : TS} (hs : EvT K t s) : EvT K t (sFrzD i s) := by
  intro ρ M c h F π G H σ R S D q
  unfold sFrzD at h
  obtain ⟨k, e, h⟩ := Option.bind_eq_some_iff.mp h
  refine hs ρ M k e F π G H σ R S D ?_
  cases k with
  | nx ρ' M' =>
    dsimp only at h
    intro π' G' H' σ' g R' S'
    split at h
    · rename_i j hj
      obtain ⟨⟨j1, xs⟩, c1, h⟩ := Option.bind_eq_some_iff.mp h
      obtain ⟨⟨ds, M2⟩, c2, h⟩ := Option.bind_eq_some_iff.mp h
      obtain ⟨⟨j2, xs2⟩, c3, hh⟩ := Option.bind_eq_some_iff.mp h
      clear h
      dsimp only at c1 c2 c3 hh
      obtain ⟨e1, hx⟩ := cellAt_some c1
      cases e1
      obtain ⟨e2, hx2⟩ := cellAt_some c3
      cases e2
      split at hh
      · cases hh
        obtain ⟨a, vs, p1, p2, p3, p4, p5⟩ := R'.mem j xs hx
        obtain ⟨G2, g2, R2, da⟩ := frz_core xs c2 R' p5
        obtain ⟨a', vs', r1, r2, r3, r4, r5⟩ := R2.mem j xs2 hx2
        rw [p1] at r1; cases r1
        rw [p4] at r4; cases r4
        obtain ⟨y, hy, sy⟩ := S'.get hj
        cases sy with
        | cel ea =>
          rw [p1] at ea
          cases ea
          obtain ⟨R3, sg⟩ := R2.freeze hx2 p1 p4
          have S2 := (S'.gr (Gr.of (g2.trans sg))).set (.dat (.lst (SqL.of upd_same) (da.mono sg))) i
          have es : σ'.set i (some (.ref a)) = σ' := by
            apply List.ext_getElem?
            intro n
            by_cases hn : i = n
            · subst hn
              obtain ⟨hlt, _⟩ := List.getElem?_eq_some_iff.mp hy
              rw [List.getElem?_set_self hlt, hy]
            · rw [List.getElem?_set_ne hn]
          rw [es] at S2
          exact q π' _ H' σ' (g.trans (.of (g2.trans sg))) R3 S2
      · cases hh
    · cases h
  | rt r M' => cases h; exact q
  | bk ρ' M' => cases h; exact q
  | ct ρ' M' => cases h; exact q
end
end Sm

/-! SmX3: list(range(n)), max and min of a list, a list taken apart. -/
namespace Sm
open PySem PySem.Spec PyProof.Rows L2
section
variable {K : PySem.W.Frag}
def eLr1 (a : SE) : SE := fun ρ M => (a ρ M).bind fun x => (intV x.1).bind fun j => if -(2 ^ 20) ≤ j ∧ j < 2 ^ 20 then some (.dat (.list (rangeD 0 j)), x.2) else none
theorem ev_lr1 {ta : TE} {a : SE} (ha : EvS K ta a) : EvS K (tLstRg (tRg1 ta)) (eLr1 a) := by
  intro ρ M z M' h F π G H σ R S Q q
  unfold eLr1 at h
  obtain ⟨⟨x, N1⟩, h1, h⟩ := Option.bind_eq_some_iff.mp h
  obtain ⟨j, c, hh⟩ := Option.bind_eq_some_iff.mp h
  clear h
  dsimp only at h1 c hh
  have e := intV_some c
  subst e
  split at hh
  · rename_i hk
    cases hh
    refine ha ρ M _ _ h1 F π G H σ R S _ fun π1 G1 H1 v1 g1 R1 s1 => ?_
    cases s1 with
    | dat d1 =>
      cases d1
      refine ⟨j, rfl, ⟨by omega, by omega, by omega, by omega, by omega⟩, fun p hp => ?_⟩
      have al : Al G1 H1 (upd G1 p (.lst (rgV 0 j))) (upd H1 p (.lst (rgV 0 j))) := .new hp
      exact q π1 _ _ _ (g1.trans (.of (R1.alSame al))) (R1.al al) (.dat (.lst (SqL.of upd_same) (rg_all 0 j)))
  · cases hh
/-- list(range(n)), a list that may change -/
def eLrN (a : SE) : SE := fun ρ M => (a ρ M).bind fun x => (intV x.1).bind fun j => if -(2 ^ 20) ≤ j ∧ j < 2 ^ 20 then some (.cel x.2.length, x.2 ++ [some ((rangeD 0 j).map SV.dat)]) else none
theorem ev_lrN {ta : TE} {a : SE} (ha : EvS K ta a) : EvS K (tLstRg (tRg1 ta)) (eLrN a) := by
  intro ρ M z M' h F π G H σ R S Q q
  unfold eLrN at h
  obtain ⟨⟨x, N1⟩, h1, h⟩ := Option.bind_eq_some_iff.mp h
  obtain ⟨j, c, hh⟩ := Option.bind_eq_some_iff.mp h
  clear h
  dsimp only at h1 c hh
  have e := intV_some c
  subst e
  split at hh
  · rename_i hk
    cases hh
    refine ha ρ M _ N1 h1 F π G H σ R S _ fun π1 G1 H1 v1 g1 R1 s1 => ?_
    cases s1 with
    | dat d1 =>
      cases d1
      refine ⟨j, rfl, ⟨by omega, by omega, by omega, by omega, by omega⟩, fun l hn => ?_⟩
      have hn' : (π1 ++ [l])[N1.length]? = some l := by rw [List.getElem?_append_right (by rw [R1.len]; exact Nat.le_refl _), R1.len, Nat.sub_self]; rfl
      exact q (π1 ++ [l]) G1 _ _ (g1.trans ⟨Same.refl G1, [l], rfl⟩) (R1.push hn (Svs.ofD (rg_all 0 j))) (.cel hn')
  · cases hh
/-! max, min -/
def maxI : List Int → Int
  | [] => 0
  | [x] => x
  | x :: y :: r => max x (maxI (y :: r))
def minI : List Int → Int
  | [] => 0
  | [x] => x
  | x :: y :: r => min x (minI (y :: r))
theorem maxI_ge : ∀ (l : List Int) (z : Int), z ∈ l → z ≤ maxI l
  | [], _, h => by cases h
  | [x], z, h => by rw [List.mem_singleton] at h; rw [h]; exact Int.le_refl _
  | x :: y :: r, z, h => by
    rw [maxI]
    rcases List.mem_cons.mp h with e | e
    · rw [e]; exact Int.le_max_left _ _
    · exact Int.le_trans (maxI_ge (y :: r) z e) (Int.le_max_right _ _)
theorem maxI_mem : ∀ (l : List Int), 0 < l.length → maxI l ∈ l
  | [], h => by cases h
  | [x], _ => List.mem_singleton_self x
  | x :: y :: r, _ => by
    rw [maxI]
    have ih := maxI_mem (y :: r) (by simp)
    rcases Int.le_total x (maxI (y :: r)) with q | q
    · rw [Int.max_eq_right q]; exact List.mem_cons_of_mem _ ih
    · rw [Int.max_eq_left q]; exact List.mem_cons_self
theorem minI_le : ∀ (l : List Int) (z : Int), z ∈ l → minI l ≤ z
  | [], _, h => by cases h
  | [x], z, h => by rw [List.mem_singleton] at h; rw [h]; exact Int.le_refl _
  | x :: y :: r, z, h => by
    rw [minI]
    rcases List.mem_cons.mp h with e | e
    · rw [e]; exact Int.min_le_left _ _
    · exact Int.le_trans (Int.min_le_right _ _) (minI_le (y :: r) z e)
theorem minI_mem : ∀ (l : List Int), 0 < l.length → minI l ∈ l
  | [], h => by cases h
  | [x], _ => List.mem_singleton_self x
  | x :: y :: r, _ => by
    rw [minI]
    have ih := minI_mem (y :: r) (by simp)
    rcases Int.le_total x (minI (y :: r)) with q | q
    · rw [Int.min_eq_left q]; exact List.mem_cons_self
    · rw [Int.min_eq_right q]; exact List.mem_cons_of_mem _ ih
def rMax1 (K : PySem.W.Frag) : V → Hp → VK → Prop := fun x H Q => ∃ (a : Addr) (ns : List Int), x = .ref a ∧ SqL K H a (ns.map V.int) ∧ 0 < ns.length ∧ Q (.int (maxI ns)) H
def rMin1 (K : PySem.W.Frag) : V → Hp → VK → Prop := fun x H Q => ∃ (a : Addr) (ns : List Int), x = .ref a ∧ SqL K H a (ns.map V.int) ∧ 0 < ns.length ∧ Q (.int (minI ns)) H
theorem call_max1 {X : Cx} (hc : X.calm = true) : CallR X (.builtin "max") (fun xs H Q => ∃ x, xs = [x] ∧ rMax1 X.K x H Q) := by
  intro pins s σ H xs us Q I r h
  obtain ⟨x, rfl, a, ns, rfl, hs, h0, q⟩ := h
  refine cr_max hc pins s σ H _ us Q I r ⟨a, ns, rfl, hs, h0, fun m h1 h2 => ?_⟩
  rw [show m = maxI ns from Int.le_antisymm (maxI_ge ns m h1) (h2 _ (maxI_mem ns h0))]
  exact q
theorem call_min1 {X : Cx} (hc : X.calm = true) : CallR X (.builtin "min") (fun xs H Q => ∃ x, xs = [x] ∧ rMin1 X.K x H Q) := by
  intro pins s σ H xs us Q I r h
  obtain ⟨x, rfl, a, ns, rfl, hs, h0, q⟩ := h
  refine cr_min hc pins s σ H _ us Q I r ⟨a, ns, rfl, hs, h0, fun m h1 h2 => ?_⟩
  rw [show m = minI ns from Int.le_antisymm (h2 _ (minI_mem ns h0)) (minI_le ns m h1)]
  exact q
def dMaxL : PyData → Option PyData
  | .list ds => (intsOf ds).bind fun ns => if 0 < ns.length then some (.int (maxI ns)) else none
  | _ => none
def dMinL : PyData → Option PyData
  | .list ds => (intsOf ds).bind fun ns => if 0 < ns.length then some (.int (minI ns)) else none
  | _ => none
theorem us_max : UnS K (rMax1 K) (lift1 dMaxL) := us_lift (by
  intro x z e G H v sm dx Q q
  cases dx <;> first | cases e | skip
  rename_i a xs ds hs ha
  obtain ⟨bs, h1, e⟩ := Option.bind_eq_some_iff.mp e
  split at e
  · rename_i h0
    cases e
    have e := ints_of ha h1
    subst e
    exact ⟨a, bs, rfl, sm.seq hs, h0, q G H _ .same (.int _)⟩
  · cases e)
theorem us_min : UnS K (rMin1 K) (lift1 dMinL) := us_lift (by
  intro x z e G H v sm dx Q q
  cases dx <;> first | cases e | skip
  rename_i a xs ds hs ha
  obtain ⟨bs, h1, e⟩ := Option.bind_eq_some_iff.mp e
  split at e
  · rename_i h0
    cases e
    have e := ints_of ha h1
    subst e
    exact ⟨a, bs, rfl, sm.seq hs, h0, q G H _ .same (.int _)⟩
  · cases e)
/-! a list that may change, taken apart -/
def setAllV : List Nat → List SV → Rho → Rho
  | i :: is, d :: ds, ρ => setAllV is ds (ρ.set i (some d))
  | _, _, ρ => ρ
def gTpC (is : List Nat) : SG := fun r ρ M => (cellAt M r).bind fun c => if c.2.length = is.length then some (setAllV is c.2 ρ, M) else none
theorem eg_namesV : ∀ {is : List Nat} {ds : List SV} {vs : List V} {ρ : Rho} {π : List Addr} {G H : Hp} {σ : L2.St} {Q : L2.St → Hp → Prop}, ds.length = is.length → Svs K π G ds vs → Slots K π G ρ σ →
    (∀ σ', Slots K π G (setAllV is ds ρ) σ' → Q σ' H) → gNames is vs σ H Q
  | [], [], _, _, _, _, _, _, _, _, .nil, S, q => ⟨rfl, q _ S⟩
  | i :: is, d :: ds, _, _, _, _, _, _, _, hl, .cons h r, S, q => ⟨_, _, rfl, eg_namesV (by simpa using hl) r (S.set h i) q⟩
  | [], _ :: _, _, _, _, _, _, _, _, hl, _, _, _ => by simp at hl
  | _ :: _, [], _, _, _, _, _, _, _, hl, _, _, _ => by simp at hl
theorem eg_unl {is : List Nat} {n : Nat} (hn : n = is.length) : EvG K (gUnl K n (gNames is)) (gTpC is) := by
  intro r ρ M ρ' M' h F π G H v σ R S s Q q
  subst hn
  unfold gTpC at h
  obtain ⟨⟨j, xs⟩, c, hh⟩ := Option.bind_eq_some_iff.mp h
  clear h
  dsimp only at c hh
  obtain ⟨rfl, hx⟩ := cellAt_some c
  split at hh
  · rename_i hl
    cases hh
    cases s with
    | @cel _ a ea =>
      obtain ⟨a', vs, p1, p2, p3, p4, p5⟩ := R.mem j xs hx
      rw [ea] at p1; cases p1
      exact ⟨a, vs, rfl, SqL.of p4, by rw [← p5.length, hl], eg_namesV hl p5 S fun σ' S' => q π G H σ' Gr.refl R S'⟩
  · cases hh
end
end Sm

/-! SmX4: enumerate of a list; targets within targets. -/
namespace Sm
open PySem PySem.Spec PyProof.Rows L2
section
variable {K : PySem.W.Frag}
def enumD (ds : List PyData) : List PyData := (List.range ds.length).map fun i => PyData.tuple [.int (i : Nat), (ds[i]?).getD .none]
theorem enumD_len (ds : List PyData) : (enumD ds).length = ds.length := by simp [enumD]
theorem enumD_get {ds : List PyData} {i : Nat} {d : PyData} (h : ds[i]? = some d) : (enumD ds)[i]? = some (.tuple [.int (i : Nat), d]) := by
  obtain ⟨hi, _⟩ := List.getElem?_eq_some_iff.mp h
  unfold enumD
  rw [List.getElem?_map, List.getElem?_range hi]
  simp [h]
theorem ite_ok {G : Hp} {l : Addr} {xs : List V} {ds : List PyData} (hs : SqL K G l xs) (ha : DqAll K G xs ds) : ItOk K G (Ite K l) (enumD ds) where
  go := fun i H e hi => by
    rw [enumD_len] at hi
    have h1 : i < xs.length := by rw [ha.length]; exact hi
    exact ⟨xs, xs[i], e.seq hs, List.getElem?_eq_getElem h1⟩
  stop := fun i H e hi => by
    rw [enumD_len] at hi
    exact ⟨xs, e.seq hs, by rw [ha.length]; exact hi⟩
  yld := fun i H x H' G2 e1 e2 y hi => by
    obtain ⟨T, x1, rfl, nT, rfl, h1⟩ := y
    obtain ⟨d, q1, q2⟩ := ha.get (h1 xs ((e1.trans e2).seq hs))
    have hn : Same G2 (upd G2 T (.tup [.int (i : Nat), x1])) := same_upd (none_of_same e2 nT)
    exact ⟨_, upd G2 T (.tup [.int (i : Nat), x1]), enumD_get q1, .new nT, .tup (SqT.of upd_same) (.cons (.int _) (.cons ((q2.mono e1).mono hn) .nil))⟩
def iEn (a : SA) : SI := fun ρ M => (a ρ M).bind fun x => match x.1 with
  | [.dat (.list ds)] => some (enumD ds, x.2)
  | _ => none
theorem ei_en {ta : TA} {a : SA} (ha : EvA K ta a) : EvI K (iEnum K ta) (iEn a) := by
  intro ρ M z M' h F π G H σ R S Q q
  unfold iEn at h
  obtain ⟨⟨x, N1⟩, h1, hh⟩ := Option.bind_eq_some_iff.mp h
  clear h
  dsimp only at hh
  split at hh
  · rename_i ds
    cases hh
    refine ha ρ M _ _ h1 F π G H σ R S _ fun π1 G1 H1 v1 g1 R1 s1 => ?_
    cases s1 with
    | cons s1 s2 =>
      cases s2
      cases s1 with
      | dat d =>
        cases d with
        | lst hs hd => exact ⟨_, _, rfl, R1.ex.seq hs, q π1 G1 H1 _ g1 R1 (ite_ok hs hd)⟩
  · cases hh
/-! targets -/
inductive Pat where
  | nm (i : Nat)
  | tp (ps : List Pat)
mutual
def setPat : Pat → PyData → Rho → Option Rho
  | .nm i, d, ρ => some (ρ.set i (some (.dat d)))
  | .tp ps, .tuple ds, ρ => setPats ps ds ρ
  | .tp _, _, _ => none
def setPats : List Pat → List PyData → Rho → Option Rho
  | [], [], ρ => some ρ
  | p :: ps, d :: ds, ρ => (setPat p d ρ).bind fun ρ' => setPats ps ds ρ'
  | _, _, _ => none
end
mutual
def gPat (K : PySem.W.Frag) : Pat → TG
  | .nm i => gName i
  | .tp ps => gTup K ps.length (gPats K ps)
def gPats (K : PySem.W.Frag) : List Pat → TGs
  | [] => gNil
  | p :: ps => gCons (gPat K p) (gPats K ps)
end
mutual
theorem pat_ok : ∀ (p : Pat) {d : PyData} {v : V} {ρ ρ' : Rho} {π : List Addr} {G H : Hp} {σ : L2.St} {Q : L2.St → Hp → Prop}, setPat p d ρ = some ρ' → Dq K G v d → Same G H → Slots K π G ρ σ → (∀ σ', Slots K π G ρ' σ' → Q σ' H) → gPat K p v σ H Q
  | .nm i, d, v, ρ, ρ', π, G, H, σ, Q, h, hd, _, S, q => by
    cases h
    exact q _ (S.set (.dat hd) i)
  | .tp ps, d, v, ρ, ρ', π, G, H, σ, Q, h, hd, sm, S, q => by
    cases d with
    | tuple ds =>
      cases hd with
      | tup hs ha =>
        have hl : ds.length = ps.length := pats_len ps (by simpa [setPat] using h)
        exact ⟨_, _, rfl, same_sqT sm hs, by rw [ha.length, hl], pats_ok ps (by simpa [setPat] using h) ha sm S q⟩
    | _ => simp [setPat] at h
theorem pats_len : ∀ (ps : List Pat) {ds : List PyData} {ρ ρ' : Rho}, setPats ps ds ρ = some ρ' → ds.length = ps.length
  | [], [], _, _, _ => rfl
  | [], _ :: _, _, _, h => by simp [setPats] at h
  | _ :: _, [], _, _, h => by simp [setPats] at h
  | p :: ps, d :: ds, ρ, ρ', h => by
    rw [setPats] at h
    obtain ⟨ρ1, _, h2⟩ := Option.bind_eq_some_iff.mp h
    rw [List.length_cons, List.length_cons, pats_len ps h2]
theorem pats_ok : ∀ (ps : List Pat) {ds : List PyData} {vs : List V} {ρ ρ' : Rho} {π : List Addr} {G H : Hp} {σ : L2.St} {Q : L2.St → Hp → Prop}, setPats ps ds ρ = some ρ' → DqAll K G vs ds → Same G H → Slots K π G ρ σ → (∀ σ', Slots K π G ρ' σ' → Q σ' H) → gPats K ps vs σ H Q
  | [], [], _, _, _, _, _, _, _, _, h, .nil, _, S, q => by
    simp only [setPats, Option.some.injEq] at h
    subst h
    exact ⟨rfl, q _ S⟩
  | [], _ :: _, _, _, _, _, _, _, _, _, h, _, _, _, _ => by simp [setPats] at h
  | _ :: _, [], _, _, _, _, _, _, _, _, h, _, _, _, _ => by simp [setPats] at h
  | p :: ps, d :: ds, _, ρ, ρ', π, G, H, σ, Q, h, .cons hd r, sm, S, q => by
    rw [setPats] at h
    obtain ⟨ρ1, h1, h2⟩ := Option.bind_eq_some_iff.mp h
    exact ⟨_, _, rfl, pat_ok p h1 hd sm S fun σ' S' => pats_ok ps h2 r sm S' q⟩
end
def gPt (p : Pat) : SG := fun r ρ M => match r with
  | .dat d => (setPat p d ρ).bind fun ρ' => some (ρ', M)
  | _ => none
theorem eg_pat {p : Pat} : EvG K (gPat K p) (gPt p) := by
  intro r ρ M ρ' M' h F π G H v σ R S s Q q
  unfold gPt at h
  cases s with
  | cel _ => cases h
  | dat hd =>
    dsimp only at h
    obtain ⟨ρ1, h1, h2⟩ := Option.bind_eq_some_iff.mp h
    cases h2
    exact pat_ok p h1 hd R.ex S fun σ' S' => q π G H σ' Gr.refl R S'
mutual
def patIs : Pat → List Nat
  | .nm i => [i]
  | .tp ps => patsIs ps
def patsIs : List Pat → List Nat
  | [] => []
  | p :: ps => patIs p ++ patsIs ps
end
mutual
theorem pat_mono : ∀ (p : Pat) {x : V} {σ : L2.St} {H : Hp} {Q Q' : L2.St → Hp → Prop}, (∀ σ H, Q σ H → Q' σ H) → gPat K p x σ H Q → gPat K p x σ H Q'
  | .nm i, x, σ, H, Q, Q', h, q => h _ _ q
  | .tp ps, x, σ, H, Q, Q', h, q => by
    obtain ⟨a, xs, e1, e2, e3, q⟩ := q
    exact ⟨a, xs, e1, e2, e3, pats_mono ps h q⟩
theorem pats_mono : ∀ (ps : List Pat) {xs : List V} {σ : L2.St} {H : Hp} {Q Q' : L2.St → Hp → Prop}, (∀ σ H, Q σ H → Q' σ H) → gPats K ps xs σ H Q → gPats K ps xs σ H Q'
  | [], xs, σ, H, Q, Q', h, q => ⟨q.1, h _ _ q.2⟩
  | p :: ps, xs, σ, H, Q, Q', h, q => by
    obtain ⟨x, r, e, q⟩ := q
    exact ⟨x, r, e, pat_mono p (fun σ H q => pats_mono ps h q) q⟩
end
mutual
theorem gw_pat1 : ∀ (p : Pat) {vs : List Nat}, (∀ i ∈ patIs p, i ∈ vs) → ∀ x σ H Q, gPat K p x σ H Q → gPat K p x σ H fun σ2 H2 => wipe σ2 vs = wipe σ vs ∧ Q σ2 H2
  | .nm i, vs, h, x, σ, H, Q, q => ⟨wipe_set (h i (by simp [patIs])), q⟩
  | .tp ps, vs, h, x, σ, H, Q, q => by
    obtain ⟨a, xs, e1, e2, e3, q⟩ := q
    exact ⟨a, xs, e1, e2, e3, gw_pats1 ps (fun i hi => h i (by simpa [patIs] using hi)) xs σ H Q q⟩
theorem gw_pats1 : ∀ (ps : List Pat) {vs : List Nat}, (∀ i ∈ patsIs ps, i ∈ vs) → ∀ xs σ H Q, gPats K ps xs σ H Q → gPats K ps xs σ H fun σ2 H2 => wipe σ2 vs = wipe σ vs ∧ Q σ2 H2
  | [], vs, h, xs, σ, H, Q, q => by
    obtain ⟨e, q⟩ := q
    exact ⟨e, rfl, q⟩
  | p :: ps, vs, h, xs, σ, H, Q, q => by
    obtain ⟨x, r, e, q⟩ := q
    refine ⟨x, r, e, ?_⟩
    have h1 := gw_pat1 p (vs := vs) (fun i hi => h i (by simp [patsIs, hi])) x σ H _ q
    refine pat_mono p (fun σ2 H2 ⟨e2, q2⟩ => ?_) h1
    refine pats_mono ps (fun σ3 H3 ⟨e3, q3⟩ => ⟨e3.trans e2, q3⟩) (gw_pats1 ps (vs := vs) (fun i hi => h i (by simp [patsIs, hi])) r σ2 H2 Q q2)
end
theorem gw_pat {p : Pat} {vs : List Nat} (h : ∀ i ∈ patIs p, i ∈ vs) : GW (gPat K p) vs := gw_pat1 p h
end
end Sm

/-! SmX5: x in a tuple or list of data of any depth -/
namespace Sm
open PySem PySem.Spec PyProof.Rows L2
section
variable {K : PySem.W.Frag}
def dInT (neg : Bool) : PyData → PyData → Option PyData
  | d, .tuple ds => if (SeqAt.shaped d && SeqAt.shaped (.tuple ds)) = true then some (.bool (if neg then !inD d ds else inD d ds)) else none
  | d, .list ds => if (SeqAt.shaped d && SeqAt.shaped (.list ds)) = true then some (.bool (if neg then !inD d ds else inD d ds)) else none
  | _, _ => none
def rInT (K : PySem.W.Frag) (neg : Bool) : R2 := fun x y H Q => ∃ d ds, Dp K H x d ∧ SeqAt.shaped d = true ∧ ((Dp K H y (.tuple ds) ∧ SeqAt.shaped (.tuple ds) = true) ∨ (Dp K H y (.list ds) ∧ SeqAt.shaped (.list ds) = true)) ∧ Q (.bl (if neg then !inD d ds else inD d ds)) H
theorem room65 {X : Cx} {k : Nat} (hr : Room k X.A) : X.A.units + 65 < cLine := by have := hr.un; omega
theorem op_inT {X : Cx} (hu : X.A.units + 65 < cLine) : OpR X (compareOp .In) (rInT X.K false) := by
  intro pins s σ H x y v u Q I rx ry h
  obtain ⟨d, ds, hd, sd, he, q⟩ := h
  obtain ⟨as, r1⟩ := Dp.reads I d x v hd rx
  rcases he with ⟨he, se⟩ | ⟨he, se⟩
  · obtain ⟨bs, r2⟩ := Dp.reads I (.tuple ds) y u he ry
    exact SeqAt.in_tuple_reads r2 r1 (SeqAt.canLay_of_shaped se) (SeqAt.canLay_of_shaped sd) (room_in_shaped sd hu) ⟨.bl _, H, I, rfl, q⟩
  · obtain ⟨bs, r2⟩ := Dp.reads I (.list ds) y u he ry
    exact SeqAt.in_list_reads r2 r1 (SeqAt.canLay_of_shaped se) (SeqAt.canLay_of_shaped sd) (room_in_shaped sd hu) ⟨.bl _, H, I, rfl, q⟩
theorem op_notInT {X : Cx} (hu : X.A.units + 65 < cLine) : OpR X (compareOp .NotIn) (rInT X.K true) := by
  intro pins s σ H x y v u Q I rx ry h
  obtain ⟨d, ds, hd, sd, he, q⟩ := h
  obtain ⟨as, r1⟩ := Dp.reads I d x v hd rx
  rcases he with ⟨he, se⟩ | ⟨he, se⟩
  · obtain ⟨bs, r2⟩ := Dp.reads I (.tuple ds) y u he ry
    exact SeqAt.notIn_tuple_reads r2 r1 (SeqAt.canLay_of_shaped se) (SeqAt.canLay_of_shaped sd) (room_in_shaped sd hu) ⟨.bl _, H, I, rfl, q⟩
  · obtain ⟨bs, r2⟩ := Dp.reads I (.list ds) y u he ry
    exact SeqAt.notIn_list_reads r2 r1 (SeqAt.canLay_of_shaped se) (SeqAt.canLay_of_shaped sd) (room_in_shaped sd hu) ⟨.bl _, H, I, rfl, q⟩
theorem os_inT {neg : Bool} : OpS K (rInT K neg) (lift2 (dInT neg)) := os_lift (by
  intro x y z e G H v w sm dx dy Q q
  unfold dInT at e
  split at e
  · split at e
    · rename_i hh
      rw [Bool.and_eq_true] at hh
      cases e
      exact ⟨x, _, Dq.dp sm x v (SeqAt.canLay_of_shaped hh.1) dx, hh.1, .inl ⟨Dq.dp sm _ w (SeqAt.canLay_of_shaped hh.2) dy, hh.2⟩, q G H _ .same (.bl _)⟩
    · cases e
  · split at e
    · rename_i hh
      rw [Bool.and_eq_true] at hh
      cases e
      exact ⟨x, _, Dq.dp sm x v (SeqAt.canLay_of_shaped hh.1) dx, hh.1, .inr ⟨Dq.dp sm _ w (SeqAt.canLay_of_shaped hh.2) dy, hh.2⟩, q G H _ .same (.bl _)⟩
    · cases e
  · cases e)
end
end Sm

/-! SmX6: a dict is no text -/
namespace PySem.SeqAt
open AutoSeq1 (wpAny_loadPart')
open MeetsSeq
theorem dict_ne_declines_str (l : Addr) (es : Array DictEntry) (n : Nat) (dd : Option Addr) (sl : Array (Option Value)) (b : Str) (u : Tok) :
    Meets (Builtin.«dict.__ne__» ⟨[.ref l, .str b u], []⟩) (fun _ R s => s.heap.get? l = some { cls := .type "dict", dict := dd, data := .dict es n, slots := sl } ∧ R (.ok (.ret .notImplemented)) s) :=
  .of_wp fun prog w A R s h => by obtain ⟨hp, g, d, tk, os⟩ := s; obtain ⟨hl, h⟩ := h; have f1 := F.sub_str_dict; wp_walk using wpAny_loadPart' hl; exact ⟨_, rfl, h⟩
theorem str_ne_declines_dict (b : Str) (u : Tok) (l : Addr) (c : Value) (es : Array DictEntry) (n : Nat) (dd : Option Addr) (sl : Array (Option Value)) :
    Meets (Builtin.«str.__ne__» ⟨[.str b u, .ref l], []⟩) (fun _ R s => s.heap.get? l = some { cls := c, dict := dd, data := .dict es n, slots := sl } ∧ R (.ok (.ret .notImplemented)) s) :=
  .of_wp fun prog w A R s h => by obtain ⟨hp, g, d, tk, os⟩ := s; obtain ⟨hl, h⟩ := h; wp_walk using wpAny_loadPart' hl, wpAny_load hl; exact ⟨_, rfl, h⟩
theorem RcNeAt.dict_str {A : Around} {s : Shared} {l : Addr} {o : Obj} {es : Array DictEntry} {n : Nat} (b : Str) (u : Tok) (ho : s.heap.get? l = some o) (hc : o.cls = .type "dict") (hd : o.data = .dict es n) (hu : A.units < cLine) : RcNeAt A s (.ref l) (.str b u) true := fun prog w E Q h => by
  obtain ⟨cls, dd, data, sl⟩ := o
  simp only at hc hd
  subst hc hd
  exact rc_ne_decline_or (k := false) ⟨_, ho, rfl⟩ (typeIs_str s b u) (by decide) F.sub_str_dict F.slot_dict_ne F.slot_str_ne_refl
    (fun _ hq => call_meets F.slot_dict_ne ⟨_, ho, rfl⟩ F.entry_dict_ne (F.args_dict_ne_2 _ _) (dict_ne_declines_str l es n dd sl b u) ⟨ho, hq⟩)
    (fun _ hq => call_meets F.slot_str_ne_refl (typeIs_str s b u) F.entry_str_ne (F.args_str_ne_2 _ _) (str_ne_declines_dict b u l (.type "dict") es n dd sl) ⟨ho, hq⟩)
    (fun _ hq => wpAny_of_eq (rfl : isSame (.ref l) (.str b u) = pure false) hq) (.inr hu) h
end PySem.SeqAt
namespace Sm
open PySem PySem.Spec PyProof.Rows L2
section
variable {K : PySem.W.Frag}
def dNeX : PyData → PyData → Option PyData
  | .dict _, .str _ => some (.bool true)
  | d, e => dNe d e
def rNeX (K : PySem.W.Frag) : R2 := fun x y H Q => (∃ ds z, Dq K H x (.dict ds) ∧ y = .str z ∧ Q (.bl true) H) ∨ rNeA K x y H Q
theorem op_neX {X : Cx} (hu : X.A.units + 64 < cLine) : OpR X (compareOp .NotEq) (rNeX X.K) := OpR.or (by
  intro pins s σ H x y v u Q I rx ry h
  obtain ⟨ds, z, hd, rfl, q⟩ := h
  obtain ⟨as, r1, _⟩ := Dq.reads I (.dict ds) x v hd rx
  obtain ⟨bs, r2, _⟩ := Dq.reads I (.str z) (.str z) u (.str z) ry
  cases r2
  cases r1 with
  | dict h1 h2 h3 h4 h5 =>
    refine SeqAt.RcNeAt.dict_str (A := X.A) _ _ h1 h2 h3 (by omega) X.prog X.w _ _ ?_
    exact ⟨.bl _, H, I, rfl, q⟩) (op_neA hu)
theorem os_neX : OpS K (rNeX K) (lift2 dNeX) := by
  intro M x y z e F π G H v w R sx sy Q q
  by_cases hd : ∃ ds t, x = .dat (.dict ds) ∧ y = .dat (.str t)
  · obtain ⟨ds, t, rfl, rfl⟩ := hd
    cases sx with
    | dat dx =>
      cases sy with
      | dat dy =>
        cases dy
        cases e
        exact .inl ⟨ds, t, dx.mono R.ex, rfl, q G H _ .same (.dat (.bl _))⟩
  · have e2 : lift2 dNe M x y = some z := by
      rw [← e]
      cases x with
      | cel _ => rfl
      | dat dx =>
        cases y with
        | cel _ => rfl
        | dat dy =>
          simp only [lift2]
          congr 1
          unfold dNeX
          split
          · rename_i ds t
            exact absurd ⟨ds, t, rfl, rfl⟩ hd
          · rfl
    exact .inr (os_ne M x y z e2 F π G H v w R sx sy Q q)
theorem neX_of {M : Mem} {d e : PyData} {r : Option SV} (h : lift2 dNe M (.dat d) (.dat e) = r) (hd : ∀ ds, d ≠ .dict ds) : lift2 dNeX M (.dat d) (.dat e) = r := by
  rw [← h]
  simp only [lift2]
  congr 1
  unfold dNeX
  split
  · exact absurd rfl (hd _)
  · rfl
end
end Sm

/-! SmX7: loops over zip(a, b), of lists and tuples in any mix. -/
namespace Sm
open PySem PySem.Spec PyProof.Rows L2
def SqB (K : PySem.W.Frag) : Bool → Hp → Addr → List V → Prop
  | true, H, a, xs => SqL K H a xs
  | false, H, a, xs => SqT K H a xs
def itB : Bool → Heap → Addr → Addr → Nat → Prop
  | true, h, it, a, i => h.IsListIter it a i
  | false, h, it, a, i => h.IsTupleIter it a i
def isB : Bool → Heap → Addr → Array Value → Prop
  | true, h, a, xs => h.IsList a xs
  | false, h, a, xs => h.IsTuple a xs
theorem itB.at {k : Bool} {h h' : Heap} {it a : Addr} {i : Nat} (p : itB k h it a i) (q : ∀ o, h.get? it = some o → h'.get? it = some o) : itB k h' it a i := by
  cases k
  · exact Heap.IsTupleIter.at p q
  · exact Heap.IsListIter.at p q
theorem itB.obj {k : Bool} {h : Heap} {it a : Addr} {i : Nat} (p : itB k h it a i) : ∃ o, h.get? it = some o ∧ ∀ v, o.data ≠ .cell v := by
  cases k
  · obtain ⟨o, e, _, d⟩ := p
    exact ⟨o, e, fun v q => by rw [d] at q; cases q⟩
  · obtain ⟨o, e, _, d⟩ := p
    exact ⟨o, e, fun v q => by rw [d] at q; cases q⟩
section
variable {X : Cx} {pins : List (Addr × Obj)} {σ : List (Option V)} {H : Hp} {s : Shared} {a : Addr} {xs ys : List V}
theorem sqB_inj {k : Bool} (I : Inv X pins σ H s) (h1 : SqB X.K k H a xs) (h2 : SqB X.K k H a ys) : xs = ys := by
  cases k
  · exact I.tuple_inj h1 h2
  · exact I.list_inj h1 h2
theorem seqB {k : Bool} (I : Inv X pins σ H s) (h : SqB X.K k H a xs) :
    ∃ (its : List Value) (o : Obj) (Hh : Heap → Prop), Vals xs its ∧ Begins (.ref a) o Hh ∧ Hh s.heap ∧ a < s.heap.objs.size ∧ isB k s.heap a its.toArray ∧ (∀ it h', h'.get? it = some o → itB k h' it a 0) ∧ ∀ (A : Around) (it : Addr), A.handled = none → a ≠ it → Draws X.prog X.w A it [it, a] its.length (fun i v => its[i]? = some v) (fun i h => itB k h it a i ∧ isB k h a its.toArray) := by
  cases k
  · obtain ⟨its, rv, pl, _⟩ := I.tuple h
    have hl : Heap.IsTuple s.heap a its.toArray := pl
    refine ⟨its, _, _, rv, begins_tuple a its.toArray, hl, pl.lt, hl, fun it h' e => ⟨_, e, rfl, rfl⟩, fun A it hh hne => ?_⟩
    have := Draws.tuple (prog := X.prog) (w := X.w) hh it a hne its.toArray
    have q : Draws X.prog X.w A it [it, a] its.length (fun i v => its[i]? = some v) (fun i h => h.IsTupleIter it a i ∧ h.IsTuple a its.toArray) := by simpa using this
    exact q
  · obtain ⟨its, rv, pl, _⟩ := I.list h
    refine ⟨its, _, _, rv, begins_list a its.toArray, pl.isList, pl.lt, pl.isList, fun it h' e => ⟨_, e, rfl, rfl⟩, fun A it hh hne => ?_⟩
    have := Draws.list (prog := X.prog) (w := X.w) hh it a hne its.toArray
    have q : Draws X.prog X.w A it [it, a] its.length (fun i v => its[i]? = some v) (fun i h => h.IsListIter it a i ∧ h.IsList a its.toArray) := by simpa using this
    exact q
end
/-- two of so many things, each a list or a tuple, the items in new pairs -/
def ItzM (K : PySem.W.Frag) (ka kb : Bool) (n1 n2 : Nat) (a b : Addr) : It :=
  ⟨fun i H => ∃ (xs ys : List V) (x y : V), SqB K ka H a xs ∧ SqB K kb H b ys ∧ xs.length = n1 ∧ ys.length = n2 ∧ xs[i]? = some x ∧ ys[i]? = some y,
    fun i H v H' => ∃ T x y, v = .ref T ∧ H T = none ∧ H' = upd H T (.tup [x, y]) ∧ (∀ xs, SqB K ka H a xs → xs[i]? = some x) ∧ ∀ ys, SqB K kb H b ys → ys[i]? = some y,
    fun i H => ∃ xs ys : List V, SqB K ka H a xs ∧ SqB K kb H b ys ∧ xs.length = n1 ∧ ys.length = n2 ∧ (n1 ≤ i ∨ n2 ≤ i)⟩
theorem turn_zipM {P : Program} {w : World} {K : PySem.W.Frag} {elts : List Expr} {kk : Nat} {tpos : Pos} {a b z TI TO i1 i2 : Addr} {ka kb : Bool} {n1 n2 : Nat} (D : ZipApart z TI TO i1 i2 a b) :
    Turn P w K (.Tuple elts kk tpos) (ItzM K ka kb n1 n2 a b) [z, TI, TO, i1, i2] z (fun i h => IsZip h z TI TO .none ∧ IsPair h TI (.ref i1) (.ref i2) ∧ (∃ x y, IsPair h TO x y) ∧ itB ka h i1 a i ∧ itB kb h i2 b i ∧ i ≤ n1 ∧ i ≤ n2) where
  mem := by simp
  obj := fun i h st c hc => by
    obtain ⟨hz, hTI, ⟨x, y, hTO⟩, h1, h2, _, _⟩ := st
    have e' : c = z ∨ c = TI ∨ c = TO ∨ c = i1 ∨ c = i2 := by simpa using hc
    rcases e' with q | q | q | q | q
    · rw [q]; exact ⟨_, hz, fun v q => nomatch q⟩
    · rw [q]; exact ⟨_, hTI, fun v q => nomatch q⟩
    · rw [q]; exact ⟨_, hTO, fun v q => nomatch q⟩
    · rw [q]; exact itB.obj h1
    · rw [q]; exact itB.obj h2
  keep := fun i h h' st k => by
    obtain ⟨hz, hTI, ⟨x, y, hTO⟩, h1, h2, l1, l2⟩ := st
    exact ⟨k z (by simp) _ hz, k TI (by simp) _ hTI, ⟨x, y, k TO (by simp) _ hTO⟩, h1.at fun o q => k i1 (by simp) o q, h2.at fun o q => k i2 (by simp) o q, l1, l2⟩
  item := by
    intro X hP hw hK hc i pins s σ H E I hf st hg
    subst hP hw hK
    obtain ⟨hz, hTI, ⟨x0, y0, hTO⟩, h1, h2, le1, le2⟩ := st
    obtain ⟨xs, ys, x, y, hqx, hqy, hn1, hn2, hx, hy⟩ := hg
    obtain ⟨its, o1, Hh1, rv, B1, _, lt1, p1, _, dr1⟩ := seqB I hqx
    obtain ⟨its2, o2, Hh2, rv2, B2, _, lt2, p2, _, dr2⟩ := seqB I hqy
    obtain ⟨u, hu, ru⟩ := rv.get hx
    obtain ⟨u2, hu2, ru2⟩ := rv2.get hy
    have hzl : z < s.heap.objs.size := Heap.lt_size hz
    have hh := I.ok.hd hc
    have S : ZipSep2 z TI TO i1 i2 [i1, a] [i2, b] :=
      { TIz := D.TIz, TOz := D.TOz, TITO := D.TITO, TIi1 := D.TIi1, mem1 := by simp, zf1 := by simp [D.i1z.symm, D.l1z.symm], Tf1 := by simp [D.TOi1, D.l1TO.symm], TIi2 := D.TIi2, mem2 := by simp, zf2 := by simp [D.i2z.symm, D.l2z.symm], Tf2 := by simp [D.TOi2, D.l2TO.symm], sep1_2 := by simp [D.i12, D.l2i1.symm], sep2_1 := by simp [D.i12.symm, D.l1i2.symm] }
    have lx : i < its.length := (List.getElem?_eq_some_iff.mp hu).1
    have ly : i < its2.length := (List.getElem?_eq_some_iff.mp hu2).1
    refine wpAny_pyNext_zipD2_item S (dr1 _ i1 hh D.l1i1) (dr2 _ i2 hh D.l2i2) hz hTI hTO ⟨h1, p1⟩ ⟨h2, p2⟩ lx ly fun x1 x2 h' tk y1 y2 z' TO' t1 t2 hT hsz hk => ?_
    rw [hu] at y1
    rw [hu2] at y2
    cases y1
    cases y2
    refine ⟨_, rfl, wpAny_letOwnedTupleGo_zip (s := { s with heap := h', toks := tk }) z' fun h'' z'' sb => ?_⟩
    have hT2 : h''.get? s.heap.objs.size = some { cls := .type "tuple", data := .seq #[u, u2] } := (sb.2 _ (Nat.ne_of_gt hzl)).trans hT
    have new : ObjOk X.prog X.w (upd H s.heap.objs.size (.tup [x, y])) h'' s.heap.objs.size (.tup [x, y]) :=
      ⟨by show 2 ≤ sizeLine; decide, [u, u2], .cons ru (.cons ru2 .nil), ⟨_, hT2, rfl, _, rfl⟩⟩
    have I1 : Inv X pins σ (upd H s.heap.objs.size (.tup [x, y])) { s with heap := h'', toks := tk } :=
      I.turnedNew (t' := tk) (ch := [z, TI, TO, i1, i2]) (fun c o hb q => (sb.2 c (fun q' => hb (by simp [q']))).trans (hk c o (fun q' => hb (by simp [q'])) (fun q' => hb (by simp [q'])) (fun q' => hb (by simp [q'])) (fun q' => hb (by simp [q'])) q)) hf (Nat.le_refl _) new
    refine ⟨.ref s.heap.objs.size, _, I1, rfl, ⟨_, x, y, rfl, I.hok.fresh (Nat.le_refl _), rfl, fun l hl => by rw [sqB_inj I hl hqx]; exact hx, fun l hl => by rw [sqB_inj I hl hqy]; exact hy⟩, ⟨z'', ?_, ⟨u, u2, ?_⟩, ?_, ?_, ?_, ?_⟩, fun c hcm => ?_⟩
    · exact (sb.2 _ D.TIz).trans (hk _ _ D.TIz D.TITO D.TIi1 D.TIi2 hTI)
    · exact (sb.2 _ D.TOz).trans TO'
    · exact t1.1.at fun o q => (sb.2 _ D.i1z).trans q
    · exact t2.1.at fun o q => (sb.2 _ D.i2z).trans q
    · have := rv.length; omega
    · have := rv2.length; omega
    · have hlt : c < s.heap.objs.size := by
        have e' : c = z ∨ c = TI ∨ c = TO ∨ c = i1 ∨ c = i2 := by simpa using hcm
        rcases e' with q | q | q | q | q
        · rw [q]; exact hzl
        · rw [q]; exact Heap.lt_size hTI
        · rw [q]; exact Heap.lt_size hTO
        · rw [q]; obtain ⟨_, e1, _⟩ := itB.obj h1; exact Heap.lt_size e1
        · rw [q]; obtain ⟨_, e2, _⟩ := itB.obj h2; exact Heap.lt_size e2
      rw [upd_ne (Nat.ne_of_lt hlt)]
      exact (hf c hcm).1
  done := by
    intro X hP hw hK hc i pins s σ H E I hf st hg
    subst hP hw hK
    obtain ⟨hz, hTI, ⟨x0, y0, hTO⟩, h1, h2, le1, le2⟩ := st
    obtain ⟨xs, ys, hqx, hqy, hn1, hn2, hend⟩ := hg
    obtain ⟨its, o1, Hh1, rv, B1, _, lt1, p1, _, dr1⟩ := seqB I hqx
    obtain ⟨its2, o2, Hh2, rv2, B2, _, lt2, p2, _, dr2⟩ := seqB I hqy
    have l1 := rv.length
    have l2 := rv2.length
    have hh := I.ok.hd hc
    have S : ZipSep2 z TI TO i1 i2 [i1, a] [i2, b] :=
      { TIz := D.TIz, TOz := D.TOz, TITO := D.TITO, TIi1 := D.TIi1, mem1 := by simp, zf1 := by simp [D.i1z.symm, D.l1z.symm], Tf1 := by simp [D.TOi1, D.l1TO.symm], TIi2 := D.TIi2, mem2 := by simp, zf2 := by simp [D.i2z.symm, D.l2z.symm], Tf2 := by simp [D.TOi2, D.l2TO.symm], sep1_2 := by simp [D.i12, D.l2i1.symm], sep2_1 := by simp [D.i12.symm, D.l1i2.symm] }
    exact wpAny_pyNext_zipD2_end S (dr1 _ i1 hh D.l1i1) (dr2 _ i2 hh D.l2i2) hz hTI hTO ⟨h1, p1⟩ ⟨h2, p2⟩ (by omega) (by omega) (by omega) fun h' tk hk => ⟨rfl, I.turnedL (t' := tk) (ch := [z, TI, TO, i1, i2]) (fun c o hb q =>
      hk c o (fun q' => hb (by simp [q'])) (fun q' => hb (by simp [q'])) (fun q' => hb (by simp [q'])) (fun q' => hb (by simp [q'])) q) hf⟩
  self := fun A i s Q E st h => wpAny_pyIter_zip st.1 h
def iZipM (K : PySem.W.Frag) (ta : TA) : TI := fun σ H R => ta σ H fun vs H1 => ∃ a b ka kb xs ys, vs = [.ref a, .ref b] ∧ SqB K ka H1 a xs ∧ SqB K kb H1 b ys ∧ R (ItzM K ka kb xs.length ys.length a b) H1
theorem pi_zipM {X : Cx} {e e2 : Expr} {ta : TA} {p pos tpos : Pos} {elts : List Expr} {kk : Nat} (hg : Gl X "zip") (hm : X.mg "zip" = none) (ha : PA X [e, e2] ta)
    (hs : starEach [e, e2] X.env = (false, eval e X.env) :: starEach [e2] X.env := by rfl) (hpl : (backTo pos (starEach [e2] X.env)).any (·.1) = false := by rfl) :
    PI X (.Tuple elts kk tpos) (.Call (.Name "zip" p) [e, e2] [] pos) (iZipM X.K ta) := by
  refine ⟨fun pins s σ H R I h => ?_⟩
  refine Call_ (ld_blt I hg hm PyProof.Rows.boot_zip (PyProof.Rows.callWith_type1 (thn (ha.run pos pins s σ H _ I h) fun us s1 ⟨vs, H1, I1, r1, q1⟩ => ?_) hs hpl))
  obtain ⟨a, b, ka, kb, xs, ys, ex, hqx, hqy, q⟩ := q1
  subst ex
  cases r1 with
  | cons r rr =>
    cases rr with
    | cons r' rr =>
      cases rr
      cases r
      cases r'
      have fresh5 : ∀ c, c ∈ [s1.heap.objs.size + 4, s1.heap.objs.size + 2, s1.heap.objs.size + 3, s1.heap.objs.size, s1.heap.objs.size + 1] → FpOk X pins H1 c := fun c hcm => by
        have e' : c = s1.heap.objs.size + 4 ∨ c = s1.heap.objs.size + 2 ∨ c = s1.heap.objs.size + 3 ∨ c = s1.heap.objs.size ∨ c = s1.heap.objs.size + 1 := by simpa using hcm
        have hle : s1.heap.objs.size ≤ c := by
          rcases e' with z | z | z | z | z
          · rw [z]; exact Nat.le_add_right _ _
          · rw [z]; exact Nat.le_add_right _ _
          · rw [z]; exact Nat.le_add_right _ _
          · rw [z]; exact Nat.le_refl _
          · rw [z]; exact Nat.le_add_right _ _
        exact I1.fpOk hle (I1.hok.fresh hle)
      obtain ⟨its, o1, Hh1, rv, B1, hb1, lt1, p1, n1, _⟩ := seqB I1 hqx
      obtain ⟨its2, o2, Hh2, rv2, B2, hb2, lt2, p2, n2, _⟩ := seqB I1 hqy
      refine zip_begins2 B1 B2 hb1 hb2 fun h' hz hTI hTO g1 g2 hsz hk => wpAny_pyIter_zip hz ?_
      have I2 : Inv X pins σ H1 { s1 with heap := h' } := I1.kept (t' := s1.toks) hk
      exact ⟨s1.heap.objs.size + 4, [s1.heap.objs.size + 4, s1.heap.objs.size + 2, s1.heap.objs.size + 3, s1.heap.objs.size, s1.heap.objs.size + 1], _, _, H1, rfl, I2, turn_zipM (PySem.W.ktu_apart s1.heap.objs.size a b lt1 lt2), ⟨hz, hTI, ⟨_, _, hTO⟩, n1 _ _ g1, n2 _ _ g2, Nat.zero_le _, Nat.zero_le _⟩, fresh5, q⟩
section
variable {K : PySem.W.Frag}
theorem sqB_mono {k : Bool} {G H : Hp} {a : Addr} {xs : List V} (e : Same G H) (h : SqB K k G a xs) : SqB K k H a xs := by
  cases k
  · exact same_sqT e h
  · exact e.seq h
theorem itzM_ok {G : Hp} {l m : Addr} {xs ys : List V} {ds es : List PyData} {ka kb : Bool} (hs : SqB K ka G l xs) (ha : DqAll K G xs ds) (hs' : SqB K kb G m ys) (ha' : DqAll K G ys es) : ItOk K G (ItzM K ka kb xs.length ys.length l m) (zipD ds es) where
  go := fun i H e hi => by
    rw [zipD_len] at hi
    have h1 : i < xs.length := by rw [ha.length]; omega
    have h2 : i < ys.length := by rw [ha'.length]; omega
    exact ⟨xs, ys, xs[i], ys[i], sqB_mono e hs, sqB_mono e hs', rfl, rfl, List.getElem?_eq_getElem h1, List.getElem?_eq_getElem h2⟩
  stop := fun i H e hi => by
    rw [zipD_len] at hi
    refine ⟨xs, ys, sqB_mono e hs, sqB_mono e hs', rfl, rfl, ?_⟩
    rw [ha.length, ha'.length]; omega
  yld := fun i H x H' G2 e1 e2 y hi => by
    obtain ⟨T, x1, x2, rfl, nT, rfl, h1, h2⟩ := y
    obtain ⟨d, q1, q2⟩ := ha.get (h1 xs (sqB_mono (e1.trans e2) hs))
    obtain ⟨d', q3, q4⟩ := ha'.get (h2 ys (sqB_mono (e1.trans e2) hs'))
    have hn : Same G2 (upd G2 T (.tup [x1, x2])) := same_upd (none_of_same e2 nT)
    exact ⟨_, upd G2 T (.tup [x1, x2]), zipD_get q1 q3, .new nT, .tup (SqT.of upd_same) (.cons ((q2.mono e1).mono hn) (.cons ((q4.mono e1).mono hn) .nil))⟩
theorem seqB_of {G : Hp} {v : V} {d : PyData} {ds : List PyData} (h : Dq K G v d) (e : seqD d = some ds) : ∃ k a xs, v = .ref a ∧ SqB K k G a xs ∧ DqAll K G xs ds := by
  cases h with
  | lst hs ha => cases e; exact ⟨true, _, _, rfl, hs, ha⟩
  | tup hs ha => cases e; exact ⟨false, _, _, rfl, hs, ha⟩
  | _ => cases e
theorem ei_zp {ts : TA} {as : SA} (hs : EvA K ts as) : EvI K (iZipM K ts) (iZp as) := by
  intro ρ M z M' h F π G H σ R S Q q
  unfold iZp at h
  obtain ⟨⟨x, M1⟩, h1, h⟩ := Option.bind_eq_some_iff.mp h
  refine hs ρ M x M1 h1 F π G H σ R S _ fun π1 G1 H1 v1 g1 R1 s1 => ?_
  dsimp only at h
  split at h
  · rename_i d e
    obtain ⟨xs, e1, h⟩ := Option.bind_eq_some_iff.mp h
    obtain ⟨ys, e2, h⟩ := Option.bind_eq_some_iff.mp h
    cases h
    cases s1 with
    | cons s1 s2 =>
      cases s2 with
      | cons s2 s3 =>
        cases s3
        cases s1 with
        | dat hd =>
          cases s2 with
          | dat hd' =>
            obtain ⟨ka, a, vs, rfl, sa, da⟩ := seqB_of hd e1
            obtain ⟨kb, b, ws, rfl, sb, db⟩ := seqB_of hd' e2
            exact ⟨a, b, ka, kb, vs, ws, rfl, sqB_mono R1.ex sa, sqB_mono R1.ex sb, q π1 G1 H1 _ g1 R1 (itzM_ok sa da sb db)⟩
  · cases h
end
end Sm

/-! SmX8: sum of a tuple too; any of numbers and truths, in a list or a tuple. -/
namespace Sm
open PySem PySem.Spec PyProof.Rows L2
def dSumA : PyData → Option PyData
  | .list ds => (intsOf ds).bind fun bs => some (.int bs.sum)
  | .tuple ds => (intsOf ds).bind fun bs => some (.int bs.sum)
  | _ => none
def rSumA (K : PySem.W.Frag) : V → Hp → VK → Prop := fun x H Q => ∃ (a : Addr) (ns : List Int), x = .ref a ∧ SqA K H a (ns.map V.int) ∧ Q (.int ns.sum) H
theorem call_sumA {X : Cx} (hc : X.calm = true) : CallR X (.builtin "sum") (fun xs H Q => ∃ x, xs = [x] ∧ rSumA X.K x H Q) := by
  intro pins s σ H xs us Q I r h
  obtain ⟨x, rfl, a, ns, rfl, hs | hs, q⟩ := h
  · exact cr_sum hc pins s σ H _ us Q I r ⟨a, ns, rfl, hs, q⟩
  · obtain ⟨its, rv, hl, _⟩ := I.tuple hs
    rw [Vals.ref1 r]
    have hi := rv.ints
    have ht : s.heap.IsTuple a its.toArray := hl
    obtain ⟨xs, hx⟩ := hi.allInts.items
    have hn : numsOf its.toArray.toList = ns := by rw [show its.toArray.toList = its from rfl, hi.numsOf]
    rw [hx] at ht hn
    rw [nums_intItems] at hn
    refine PySem.W.ktm_sumG (I.ok.hd hc) ht fun h' tk t' hk => ?_
    rw [preSum_eq, List.take_of_length_le (by simp), hn]
    exact ⟨.int _, H, I.kept hk, ⟨_, rfl⟩, q⟩
def flagD : PyData → Option Bool
  | .int z => some (z != 0)
  | .bool b => some b
  | _ => none
def flagsOf : List PyData → Option (List Bool)
  | [] => some []
  | d :: ds => (flagD d).bind fun b => (flagsOf ds).bind fun bs => some (b :: bs)
def dAny : PyData → Option PyData
  | .list ds => (flagsOf ds).bind fun bs => some (.bool (bs.any id))
  | .tuple ds => (flagsOf ds).bind fun bs => some (.bool (bs.any id))
  | _ => none
inductive FlagV : V → Bool → Prop
  | int (z : Int) : FlagV (.int z) (z != 0)
  | bl (b : Bool) : FlagV (.bl b) b
inductive FlagsV : List V → List Bool → Prop
  | nil : FlagsV [] []
  | cons {x : V} {b : Bool} {xs : List V} {bs : List Bool} (h : FlagV x b) (r : FlagsV xs bs) : FlagsV (x :: xs) (b :: bs)
theorem FlagsV.len : ∀ {xs : List V} {bs : List Bool}, FlagsV xs bs → xs.length = bs.length
  | _, _, .nil => rfl
  | _, _, .cons _ r => by simp [r.len]
theorem FlagsV.at : ∀ {xs : List V} {bs : List Bool} {us : List Value} {i : Nat} {v : Value}, FlagsV xs bs → Vals xs us → us[i]? = some v → ∃ x b, FlagV x b ∧ RelV x v ∧ bs[i]? = some b
  | _, _, _, _, _, .nil, .nil, h => by simp at h
  | _, _, _, 0, _, .cons f _, .cons r _, h => by simp at h; subst h; exact ⟨_, _, f, r, rfl⟩
  | _, _, _, i + 1, _, .cons _ fs, .cons _ rs, h => by
    obtain ⟨x, b, h1, h2, h3⟩ := FlagsV.at fs rs (by simpa using h)
    exact ⟨x, b, h1, h2, by simpa using h3⟩
theorem truth_flags {prog : Program} {w : World} {A : Around} {xs : List V} {bs : List Bool} {its : List Value} (f : FlagsV xs bs) (r : Vals xs its) :
    TruthOf prog w A (fun i v => its.toArray[i]? = some v) (fun i => bs.getD i false) := fun i v s Q E hv hq => by
  have hv' : its[i]? = some v := by simpa using hv
  obtain ⟨x, b, h1, h2, h3⟩ := f.at r hv'
  have hg : bs.getD i false = b := by rw [List.getD_eq_getElem?_getD, h3] <;> rfl
  have hq' : Q (bs.getD i false) s := hq
  rw [hg] at hq'
  cases h1 with
  | int z =>
    obtain ⟨k, rfl⟩ := h2
    exact PyProof.Rows.truthy_int hq'
  | bl b =>
    cases h2
    exact wpAny_truthy_bool hq'
def rAny1 (K : PySem.W.Frag) : V → Hp → VK → Prop := fun x H Q => ∃ (a : Addr) (xs : List V) (bs : List Bool), x = .ref a ∧ SqA K H a xs ∧ FlagsV xs bs ∧ Q (.bl (bs.any id)) H
theorem call_any1 {X : Cx} (hc : X.calm = true) : CallR X (.builtin "any") (fun xs H Q => ∃ x, xs = [x] ∧ rAny1 X.K x H Q) := by
  intro pins s σ H xs us Q I r h
  obtain ⟨x, rfl, a, xs, bs, rfl, hs | hs, hf, q⟩ := h
  · obtain ⟨its, rv, hl, _⟩ := I.list hs
    rw [Vals.ref1 r]
    refine call_any_walk (iter_any hl.isList fun s₂ e2 st hne => ?_)
    subst e2
    refine ⟨_, _, _, _, _, _, _, rfl, Walks.list (A := X.A.in1) (I.ok.hd hc) _ a hne its.toArray, st, truth_flags hf rv, fun h' tk hk => ?_⟩
    refine ⟨.bl _, H, I.kept fun b o eo => hk b o (fun hmem => ?_) (Heap.get?_push_of_some _ eo), ?_, q⟩
    · rcases List.mem_cons.mp hmem with e1 | hmem
      · exact absurd (e1 ▸ Heap.lt_size eo) (Nat.lt_irrefl _)
      · cases hmem
    · show Value.bool _ = Value.bool _
      rw [← L2.any_range, List.size_toArray, ← rv.length, hf.len]
  · obtain ⟨its, rv, hl, _⟩ := I.tuple hs
    rw [Vals.ref1 r]
    have ht : s.heap.IsTuple a its.toArray := hl
    have hne : a ≠ s.heap.objs.size := Nat.ne_of_lt hl.lt
    refine call_any_walk (wpAny_pyIter_tuple ht ?_)
    refine ⟨_, _, _, _, _, _, _, rfl, Walks.tuple (A := X.A.in1) (I.ok.hd hc) _ a hne its.toArray, ⟨⟨_, Heap.get?_push_size _ rfl, rfl, rfl⟩, ht.at fun o e => Heap.get?_push_of_some _ e⟩, truth_flags hf rv, fun h' tk hk => ?_⟩
    refine ⟨.bl _, H, I.kept fun b o eo => hk b o (fun hmem => ?_) (Heap.get?_push_of_some _ eo), ?_, q⟩
    · rcases List.mem_cons.mp hmem with e1 | hmem
      · exact absurd (e1 ▸ Heap.lt_size eo) (Nat.lt_irrefl _)
      · cases hmem
    · show Value.bool _ = Value.bool _
      rw [← L2.any_range, List.size_toArray, ← rv.length, hf.len]
section
variable {K : PySem.W.Frag}
theorem us_sumA : UnS K (rSumA K) (lift1 dSumA) := us_lift (by
  intro x z e G H v sm dx Q q
  cases dx <;> first | cases e | skip
  · rename_i a xs ds hs ha
    obtain ⟨bs, h1, e⟩ := Option.bind_eq_some_iff.mp e
    cases e
    have e := ints_of ha h1
    subst e
    exact ⟨a, bs, rfl, .inl (sm.seq hs), q G H _ .same (.int _)⟩
  · rename_i a xs ds hs ha
    obtain ⟨bs, h1, e⟩ := Option.bind_eq_some_iff.mp e
    cases e
    have e := ints_of ha h1
    subst e
    exact ⟨a, bs, rfl, .inr (same_sqT sm hs), q G H _ .same (.int _)⟩)
theorem flags_of {G : Hp} : ∀ {vs : List V} {ds : List PyData} {bs : List Bool}, DqAll K G vs ds → flagsOf ds = some bs → FlagsV vs bs
  | _, _, _, .nil, h => by cases h; exact .nil
  | _, _, _, .cons h r, e => by
    unfold flagsOf at e
    obtain ⟨b, h0, e⟩ := Option.bind_eq_some_iff.mp e
    obtain ⟨bs, h1, e⟩ := Option.bind_eq_some_iff.mp e
    cases e
    refine .cons ?_ (flags_of r h1)
    cases h <;> first | cases h0 | skip
    · exact .bl _
    · exact .int _
theorem us_any : UnS K (rAny1 K) (lift1 dAny) := us_lift (by
  intro x z e G H v sm dx Q q
  cases dx <;> first | cases e | skip
  · rename_i a xs ds hs ha
    obtain ⟨bs, h1, e⟩ := Option.bind_eq_some_iff.mp e
    cases e
    exact ⟨a, xs, bs, rfl, .inl (sm.seq hs), flags_of ha h1, q G H _ .same (.bl _)⟩
  · rename_i a xs ds hs ha
    obtain ⟨bs, h1, e⟩ := Option.bind_eq_some_iff.mp e
    cases e
    exact ⟨a, xs, bs, rfl, .inr (same_sqT sm hs), flags_of ha h1, q G H _ .same (.bl _)⟩)
end
section
variable {K : PySem.W.Frag}
def sAsg2 (e : SE) (g1 g2 : SG) : SS := fun ρ M => (e ρ M).bind fun x => (g1 x.1 ρ x.2).bind fun y => (g2 x.1 y.1 y.2).bind fun z => some (.nx z.1 z.2)
theorem et_asg2 {ta : TE} {a : SE} {t1 t2 : TG} {s1 s2 : SG} (he : EvS K ta a) (h1 : EvG K t1 s1) (h2 : EvG K t2 s2) : EvT K (tAsg2 ta t1 t2) (sAsg2 a s1 s2) := by
  intro ρ M c h F π G H σ R S D q
  unfold sAsg2 at h
  obtain ⟨⟨x, M1⟩, e1, h⟩ := Option.bind_eq_some_iff.mp h
  obtain ⟨⟨ρ', M2⟩, e2, h⟩ := Option.bind_eq_some_iff.mp h
  obtain ⟨⟨ρ'', M3⟩, e3, h⟩ := Option.bind_eq_some_iff.mp h
  cases h
  refine he ρ M x M1 e1 F π G H σ R S _ fun π1 G1 H1 v1 g1 R1 s1 => ?_
  refine h1 x ρ M1 ρ' M2 e2 F π1 G1 H1 v1 σ R1 (S.gr g1) s1 _ fun π2 G2 H2 σ2 g2 R2 S2 => ?_
  exact h2 x ρ' M2 ρ'' M3 e3 F π2 G2 H2 v1 σ2 R2 S2 (s1.gr g2) _ fun π3 G3 H3 σ3 g3 R3 S3 => q π3 G3 H3 σ3 (g1.trans (g2.trans g3)) R3 S3
end
/-! max of a tuple -/
theorem max_tup {prog : Program} {w : World} {A : Around} {E : Value → Shared → Prop} {s : Shared} {t : Addr} {xs : Array (Int × Tok)} {Q : Value → Shared → Prop} (hh : A.handled = none) (ht : s.heap.IsTuple t (intItems xs)) (hne : 0 < xs.size)
    (h : ∀ v h' tk, (intItems xs)[argBest (fun i j => decide (numAt xs i > numAt xs j)) (xs.size - 1)]? = some v → (∀ b o, s.heap.get? b = some o → h'.get? b = some o) → Q v { s with heap := h', toks := tk }) :
    wpAny (model prog w) A (call (.builtin "max") [.ref t]) Q E s := by
  obtain ⟨o, ho, hc, n, hd⟩ := id ht
  have hlt : t ≠ s.heap.objs.size := Nat.ne_of_lt (Heap.lt_size ho)
  refine call_max_walk (wpAny_pyIter_tuple ht ?_)
  refine ⟨_, _, _, _, _, _, _, rfl, Walks.tuple (A := A.in1) hh _ t hlt (intItems xs), ⟨⟨_, Heap.get?_push_size _ rfl, rfl, rfl⟩, ht.at fun o e => Heap.get?_push_of_some _ e⟩, fun b hb => ?_, by simpa [intItems] using hne, CmpOf.ints_gt (numAt xs) (fun _ _ => intItems_at), fun v h' tk hP hk => ?_⟩
  · rcases List.mem_cons.mp hb with rfl | hb
    · exact Heap.lt_size (Heap.get?_push_size _ rfl)
    · obtain rfl := List.mem_singleton.mp hb
      exact Heap.lt_size (Heap.get?_push_of_some _ ho)
  · exact h v h' tk (by simpa [intItems] using hP) fun b o e => hk b o (fun hb => absurd (Heap.lt_size e) ((List.mem_singleton.mp hb) ▸ Nat.lt_irrefl _)) (Heap.get?_push_of_some _ e)
def rMaxA (K : PySem.W.Frag) : V → Hp → VK → Prop := fun x H Q => ∃ (a : Addr) (ns : List Int), x = .ref a ∧ SqA K H a (ns.map V.int) ∧ 0 < ns.length ∧ Q (.int (maxI ns)) H
theorem call_maxA {X : Cx} (hc : X.calm = true) : CallR X (.builtin "max") (fun xs H Q => ∃ x, xs = [x] ∧ rMaxA X.K x H Q) := by
  intro pins s σ H xs us Q I r h
  obtain ⟨x, rfl, a, ns, rfl, hs | hs, hne, q⟩ := h
  · exact call_max1 hc pins s σ H _ us Q I r ⟨_, rfl, a, ns, rfl, hs, hne, q⟩
  · obtain ⟨its, rv, hl, _⟩ := I.tuple hs
    rw [Vals.ref1 r]
    have hi := rv.ints
    have ht : s.heap.IsTuple a its.toArray := hl
    obtain ⟨xs, e⟩ := hi.allInts.items
    have hn : numsOf (intItems xs).toList = ns := by rw [← e]; exact hi.numsOf
    rw [nums_intItems] at hn
    subst hn
    rw [e] at ht
    have hsz : 0 < xs.size := by simpa using hne
    refine max_tup (I.ok.hd hc) ht hsz fun v h' tk hv hk => ?_
    obtain ⟨t, rfl⟩ := intItems_at hv
    obtain ⟨h1, h2⟩ := argBest_gt (numAt xs) (xs.size - 1)
    generalize hm : numAt xs (argBest (fun i j => decide (numAt xs i > numAt xs j)) (xs.size - 1)) = m at *
    have m1 : m ∈ List.map (fun x => x.1) xs.toList := by
      rw [← hm, numAt_eq]; exact PySem.getD_mem (by rw [List.length_map, Array.length_toList]; omega)
    have m2 : ∀ a, a ∈ List.map (fun x => x.1) xs.toList → a ≤ m := fun a ha => by
      obtain ⟨j, hj, rfl⟩ := mem_getD ha
      rw [List.length_map, Array.length_toList] at hj
      rw [← numAt_eq]; exact h2 j (by omega)
    have em := Int.le_antisymm (maxI_ge _ m m1) (m2 _ (maxI_mem _ hne))
    refine ⟨.int m, H, I.kept hk, ⟨_, rfl⟩, ?_⟩
    rw [em]; exact q
def dMaxA : PyData → Option PyData
  | .list ds => (intsOf ds).bind fun ns => if 0 < ns.length then some (.int (maxI ns)) else none
  | .tuple ds => (intsOf ds).bind fun ns => if 0 < ns.length then some (.int (maxI ns)) else none
  | _ => none
theorem us_maxA {K : PySem.W.Frag} : UnS K (rMaxA K) (lift1 dMaxA) := us_lift (by
  intro x z e G H v sm dx Q q
  cases dx <;> first | cases e | skip
  · rename_i a xs ds hs ha
    obtain ⟨bs, h1, e⟩ := Option.bind_eq_some_iff.mp e
    split at e
    · rename_i h0
      cases e
      have e := ints_of ha h1
      subst e
      exact ⟨a, bs, rfl, .inl (sm.seq hs), h0, q G H _ .same (.int _)⟩
    · cases e
  · rename_i a xs ds hs ha
    obtain ⟨bs, h1, e⟩ := Option.bind_eq_some_iff.mp e
    split at e
    · rename_i h0
      cases e
      have e := ints_of ha h1
      subst e
      exact ⟨a, bs, rfl, .inr (same_sqT sm hs), h0, q G H _ .same (.int _)⟩
    · cases e)
end Sm

/-! SmX9: for i in reversed(range(n)). -/
namespace Sm
open PySem PySem.Spec PyProof.Rows L2
section
variable {K : PySem.W.Frag}
def iRr1 (a : SE) : SI := fun ρ M => (a ρ M).bind fun x => match x.1 with
  | .dat (.int j) => if -(2 ^ 62) ≤ j ∧ j < 2 ^ 62 then some ((rangeD 0 j).reverse, x.2) else none
  | _ => none
theorem itrr_ok {G : Hp} {j : Int} : ItOk K G (Itc (0 + (((j - 0).toNat : Nat) : Int) - 1) (-1) (j - 0).toNat) (rangeD 0 j).reverse where
  go := fun i H e h => by rw [List.length_reverse, rangeD_len] at h; exact h
  stop := fun i H e h => by rw [List.length_reverse, rangeD_len] at h; exact h
  yld := fun i H x H' G2 e1 e2 y h => by
    obtain ⟨rfl, rfl⟩ := y
    rw [List.length_reverse, rangeD_len] at h
    refine ⟨.int (0 + (((j - 0).toNat : Nat) : Int) - 1 + (i : Nat) * -1), G2, ?_, .same, .int _⟩
    rw [List.getElem?_reverse (by rw [rangeD_len]; exact h), rangeD_len]
    unfold rangeD
    rw [List.getElem?_map, List.getElem?_range (by omega)]
    simp only [Option.map_some]
    congr 2
    omega
theorem ei_rr1 {ta : TE} {a : SE} (ha : EvS K ta a) : EvI K (iRevR (tRg1 ta)) (iRr1 a) := by
  intro ρ M z M' h F π G H σ R S Q q
  unfold iRr1 at h
  obtain ⟨⟨x, M1⟩, h1, h⟩ := Option.bind_eq_some_iff.mp h
  refine ha ρ M x M1 h1 F π G H σ R S _ fun π1 G1 H1 v1 g1 R1 s1 => ?_
  dsimp only at h
  split at h
  · rename_i j
    split at h
    · rename_i hj
      cases h
      cases s1 with
      | dat hd =>
        cases hd
        exact ⟨j, rfl, by decide, by decide, hj.1, hj.2, q π1 G1 H1 _ g1 R1 itrr_ok⟩
    · cases h
  · cases h
end
end Sm

/-! SmX10: x is not True (x a truth). -/
namespace Sm
open PySem PySem.Spec PyProof.Rows L2
section
variable {K : PySem.W.Frag}
def dNotB : PyData → PyData → Option PyData
  | .bool a, .bool b => some (.bool (!decide (a = b)))
  | _, _ => none
def rNotB' : R2 := fun x y H Q => ∃ a b, x = .bl a ∧ y = .bl b ∧ Q (.bl (!decide (a = b))) H
theorem os_notB : OpS K rNotB' (lift2 dNotB) := os_lift (by
  intro x y z e G H v w sm dx dy Q q
  cases dy <;> (cases dx <;> first | cases e | skip)
  all_goals exact ⟨_, _, rfl, rfl, q G H _ .same (.bl _)⟩)
theorem l_notB {M : Mem} : lift2 dNotB M (.dat (.bool true)) (.dat (.bool true)) = some (.dat (.bool false)) := rfl
end
end Sm

/-! SmX11: sorted(t), t a list or a tuple of ints. -/
namespace SrtO
open PySem PyProof.Rows Srt
section
variable {prog : Program} {w : World} {A : Around} {E : Value → Shared → Prop} {s : Shared}
theorem collect_tup {l : Addr} {vs : List Value} {Q : List Value → Shared → Prop} (hl : s.heap.IsTuple l vs.toArray)
    (h : Q vs { s with heap := (s.heap.push (seqObj "list" #[] 0)).update s.heap.objs.size (Obj.mapSeq (· ++ vs.toArray)) }) (hsz : vs.length ≤ sizeLine) :
    wpAny (model prog w) A (collect (.ref l)) Q E s := by
  obtain ⟨o, ho, hc, n, hd⟩ := id hl
  unfold collect
  refine wpAny_bind (wpAny_runValue (codeAny_builtin entry_proto_collect' ?_))
  show wpAny _ _ (do again (.builtin "list.__iadd__" ⟨[← newList [], .ref l], []⟩)) _ _ s
  refine wpAny_bind (wpAny_newList (wpAny_pure ⟨Code.quiet_builtin _ (by decide +kernel), codeAny_builtin entry_list_iadd' ?_⟩))
  show wpAny _ _ (Builtin.List.listExtendWith (.ref s.heap.objs.size) (.ref l) (.ref s.heap.objs.size)) _ _ { s with heap := s.heap.push (seqObj "list" #[] 0) }
  unfold Builtin.List.listExtendWith
  have ho' : (s.heap.push (seqObj "list" #[] 0)).get? l = some o := Heap.get?_push_of_some _ ho
  refine wpAny_bind (wpAny_typeOf (T := "tuple") ⟨o, ho', hc⟩ ?_)
  have ht : (Value.type "tuple" == Value.type "tuple") = true := by rfl
  rw [if_pos (by rw [ht]; simp)]
  refine wpAny_bind (listItems_at ho' hd ?_)
  refine wpAny_bind (listItems_at (xs := #[]) (n := 0) (Heap.get?_push_size _ rfl) rfl ?_)
  rw [if_neg (by simp)]
  refine wpAny_bind (listUpdate_at (xs := #[]) (n := 0) (Heap.get?_push_size _ rfl) rfl ?_ (Nat.zero_le _) (by show (#[] ++ vs.toArray).size ≤ sizeLine + 1; simp only [Array.size_append, List.size_toArray, List.length_nil]; omega))
  refine wpAny_pure ?_
  refine wpAny_bind (wpAny_load (get?_update_seq (Heap.get?_push_size _ rfl) _) ?_)
  show wpAny _ _ (pure ((#[] : Array Value) ++ vs.toArray).toList) Q E _
  rw [show ((#[] : Array Value) ++ vs.toArray).toList = vs by simp]
  exact wpAny_pure h
theorem sorted_tup {l : Addr} {vs : List Value} {ltv : Value → Value → Bool} {Q : Value → Shared → Prop} (O : Swo ltv) (hl : s.heap.IsTuple l vs.toArray) (hz : vs.length ≤ sizeLine)
    (hS : 2 ≤ vs.length → ∀ (h₁ : Heap) (a : Addr), h₁.get? a = some (seqObj "list" vs.toArray 0) → (∀ b o, s.heap.get? b = some o → b ≠ a ∧ h₁.get? b = some o) → SortableO prog w A.in1.in1 { s with heap := h₁ } a vs ltv)
    (h : ∀ out : List Value, Srtd ltv out → Stb ltv out vs → Q (.ref (s.heap.objs.size + 1)) { s with heap := sortedAll s.heap vs out.toArray }) :
    wpAny (model prog w) A (call (.builtin "sorted") [.ref l]) Q E s := by
  refine Calls.call_function_entry kind_sorted plain_sorted entry_sorted (args_sorted1 _) ?_
  unfold Builtin.«sorted»
  refine wpAny_bind (m := checkCount "sorted" 1 1 _) (wpAny_pure ?_)
  refine wpAny_bind (collect_tup hl ?_ hz)
  refine wpAny_bind (wpAny_newList ?_ hz)
  have hsz : ((s.heap.push (seqObj "list" #[] 0)).update s.heap.objs.size (Obj.mapSeq (· ++ vs.toArray))).objs.size = s.heap.objs.size + 1 := by
    rw [Heap.size_update, size_push']
  have hoL : (((s.heap.push (seqObj "list" #[] 0)).update s.heap.objs.size (Obj.mapSeq (· ++ vs.toArray))).push (seqObj "list" vs.toArray 0)).get? (s.heap.objs.size + 1) = some (seqObj "list" vs.toArray 0) := by
    rw [← hsz]; exact Heap.get?_push_size _ rfl
  have keep : ∀ b o, s.heap.get? b = some o → b ≠ s.heap.objs.size + 1 ∧ (((s.heap.push (seqObj "list" #[] 0)).update s.heap.objs.size (Obj.mapSeq (· ++ vs.toArray))).push (seqObj "list" vs.toArray 0)).get? b = some o := fun b o q => by
    have hlt : b < s.heap.objs.size := Heap.lt_size q
    refine ⟨Nat.ne_of_lt (Nat.lt_succ_of_lt hlt), Heap.get?_push_of_some _ ?_⟩
    rw [Heap.get?_update_ne _ _ _ _ (Nat.ne_of_lt hlt)]
    exact Heap.get?_push_of_some _ q
  show wpAny _ _ _ _ _ { s with heap := ((s.heap.push (seqObj "list" #[] 0)).update s.heap.objs.size (Obj.mapSeq (· ++ vs.toArray))).push (seqObj "list" vs.toArray 0) }
  rw [hsz]
  refine wpAny_bind (wpAny_holding (wpAny_call_entry slot_list_sort ⟨_, hoL, rfl⟩ entry_list_sort (list_sort_ord O hoL hz (fun h2 => hS h2 _ _ hoL keep) fun out hs hb => ⟨_, rfl, ?_⟩) (args_list_sort _)))
  exact wpAny_pure ⟨_, rfl, h out hs hb⟩
end
end SrtO
namespace Sm
open PySem PySem.Spec PyProof.Rows L2
section
variable {K : PySem.W.Frag}
def rSrtA (K : PySem.W.Frag) : V → Hp → VK → Prop := fun x H Q => ∃ (a : Addr) (ns : List Int), x = .ref a ∧ SqA K H a (ns.map V.int) ∧ ∀ p : Addr, H p = none → Q (.ref p) (upd H p (.lst ((srtI ns).map V.int)))
theorem call_sortedA {X : Cx} : CallR X (.builtin "sorted") (fun xs H Q => ∃ x, xs = [x] ∧ rSrtA X.K x H Q) := by
  intro pins s σ H xs us Q I r h
  obtain ⟨x, rfl, a, ns, rfl, hs | hs, q⟩ := h
  · exact call_sorted1 pins s σ H _ us Q I r ⟨_, rfl, a, ns, rfl, hs, q⟩
  · obtain ⟨its, rv, hl, hz⟩ := I.tuple hs
    rw [Vals.ref1 r]
    have hi := rv.ints
    refine SrtO.sorted_tup SrtO.swo_int hl (by rw [← rv.length]; exact hz) (fun h2 h₁ a' _ _ => SrtO.ints_sortable hi h2) fun out h1 h2 => ?_
    obtain ⟨k1, k2, k3⟩ := SrtO.ints_out hi h1 h2
    have e : out.map SrtO.iv = srtI ns := sorted_eq (k2.trans (srtI_perm ns).symm) k3 (srtI_sorted ns)
    obtain ⟨ep, he'⟩ := PyProof.Rows.sortedAll_at s.heap its out.toArray
    have hlen : ((srtI ns).map V.int).length ≤ sizeLine := by
      rw [List.length_map, (srtI_perm ns).length_eq]
      rw [List.length_map] at hz
      exact hz
    rw [e] at k1
    exact ⟨.ref _, upd H (s.heap.objs.size + 1) (.lst ((srtI ns).map V.int)), I.laid (t' := s.toks) (fun _ _ => PyProof.Rows.sortedAll_old) (Nat.le_succ _) ⟨hlen, out, ep, vals_of_ints k1, he'⟩, rfl, q _ (I.hok.fresh (Nat.le_succ _))⟩
def fSortedA : Mem → SV → Option SV := fun M x => (items M x).bind fun ds => (intsOf ds).bind fun ns => some (.dat (.list ((srtI ns).map PyData.int)))
theorem us_sortedA : UnS K (rSrtA K) fSortedA := by
  intro M x z e F π G H v R s Q q
  unfold fSortedA at e
  obtain ⟨ds, h1, e⟩ := Option.bind_eq_some_iff.mp e
  obtain ⟨ns, h2, e⟩ := Option.bind_eq_some_iff.mp e
  cases e
  have fin : ∀ a xs, v = .ref a → SqA K H a xs → DqAll K G xs ds → rSrtA K v H Q := by
    intro a xs e hs ha
    have e2 := ints_of ha h2
    subst e2
    exact ⟨a, ns, e, hs, fun p hp => q _ _ _ (.new hp) (.dat (.lst (SqL.of upd_same) (ints_all _)))⟩
  cases s with
  | dat d =>
    cases d <;> first | cases h1 | skip
    · rename_i a xs hs ha
      exact fin a xs rfl (.inl (R.ex.seq hs)) ha
    · rename_i a xs hs ha
      exact fin a xs rfl (.inr (same_sqT R.ex hs)) ha
  | @cel i a ea =>
    unfold items at h1
    dsimp only at h1
    split at h1
    · rename_i ys hy
      obtain ⟨a', vs, p1, p2, p3, p4, p5⟩ := R.mem i ys hy
      rw [ea] at p1; cases p1
      exact fin a vs rfl (.inl (SqL.of p4)) (dats_all h1 p5)
    · cases h1
end
end Sm

/-! SmX12: a, b, c = x, x a list (data). -/
namespace Sm
open PySem PySem.Spec PyProof.Rows L2
section
variable {K : PySem.W.Frag}
def gTpL (is : List Nat) : SG := fun r ρ M => match r with
  | .dat (.list ds) => if ds.length = is.length then some (setAll is ds ρ, M) else none
  | _ => none
theorem eg_unlD {is : List Nat} {n : Nat} (hn : n = is.length) : EvG K (gUnl K n (gNames is)) (gTpL is) := by
  intro r ρ M ρ' M' h F π G H v σ R S s Q q
  subst hn
  unfold gTpL at h
  cases s with
  | cel _ => cases h
  | dat hd =>
    cases hd with
    | @lst a xs ds hs ha =>
      dsimp only at h
      split at h
      · rename_i hl
        cases h
        exact ⟨a, xs, rfl, R.ex.seq hs, by rw [ha.length, hl], eg_names hl ha S fun σ' S' => q π G H σ' Gr.refl R S'⟩
      · cases h
    | _ => cases h
end
end Sm

/-! SmX13: lists of unlike lengths are unlike, whatever is in them -/
namespace Sm
open PySem PySem.Spec PyProof.Rows L2
section
variable {K : PySem.W.Frag}
def dNeZ (d e : PyData) : Option PyData := if lenNe d e = true then some (.bool true) else dNe d e
def rNeZ0 (K : PySem.W.Frag) : R2 := fun x y H Q => ∃ a b xs ys, x = .ref a ∧ y = .ref b ∧ SqL K H a xs ∧ SqL K H b ys ∧ xs.length ≠ ys.length ∧ Q (.bl true) H
def rNeZ (K : PySem.W.Frag) : R2 := fun x y H Q => rNeZ0 K x y H Q ∨ rNeA K x y H Q
theorem op_neZ0 {X : Cx} (hu : X.A.units + 64 < cLine) : OpR X (compareOp .NotEq) (rNeZ0 X.K) := by
  intro pins s σ H x y v u Q I rx ry h
  obtain ⟨a, b, xs, ys, rfl, rfl, ha, hb, hz, q⟩ := h
  cases rx
  cases ry
  obtain ⟨its, r1, p1, _⟩ := I.list ha
  obtain ⟨its2, r2, p2, _⟩ := I.list hb
  obtain ⟨o1, n1, g1, hc1, _, hd1⟩ := p1
  obtain ⟨o2, n2, g2, hc2, _, hd2⟩ := p2
  have l1 := r1.length
  have l2 := r2.length
  exact SeqAt.RcNeAt.lists_lengths (A := X.A) ⟨o1, g1, hc1, n1, hd1⟩ ⟨o2, g2, hc2, n2, hd2⟩ (by simp; omega) (by omega) X.prog X.w _ _ ⟨.bl true, H, I, rfl, q⟩
theorem op_neZ {X : Cx} (hu : X.A.units + 64 < cLine) : OpR X (compareOp .NotEq) (rNeZ X.K) := OpR.or (op_neZ0 hu) (op_neA hu)
theorem os_neZ : OpS K (rNeZ K) (lift2 dNeZ) := by
  intro M x y z e F π G H v w R sx sy Q q
  cases sx with
  | cel _ => cases e
  | @dat d v dx =>
    cases sy with
    | cel _ => cases e
    | @dat d2 w dy =>
      by_cases hl : lenNe d d2 = true
      · have e' : lift2 dNeZ M (.dat d) (.dat d2) = some (.dat (.bool true)) := by
          simp only [lift2, dNeZ, hl, if_true, Option.bind_some]
        rw [e'] at e
        cases e
        cases dx <;> first | cases hl | skip
        cases dy <;> first | cases hl | skip
        rename_i a xs ds hs ha b ys es hs2 hb
        refine .inl ⟨_, _, _, _, rfl, rfl, R.ex.seq hs, R.ex.seq hs2, ?_, q G H _ .same (.dat (.bl _))⟩
        rw [ha.length, hb.length]
        simpa [lenNe] using hl
      · have e' : lift2 dNe M (.dat d) (.dat d2) = some z := by
          rw [← e]
          simp only [lift2, dNeZ, hl, if_false, Bool.false_eq_true]
        exact .inr (os_ne M _ _ z e' F π G H v w R (.dat dx) (.dat dy) Q q)
end
theorem l_neZ {M : Mem} (xs : List PyData) : lift2 dNeZ M (.dat (.list xs)) (.dat (.list [])) = some (.dat (.bool (!xs.isEmpty))) := by
  cases xs with
  | nil => rfl
  | cons x xs =>
    have hl : lenNe (.list (x :: xs)) (.list []) = true := by simp [lenNe]
    simp only [lift2, dNeZ, hl, if_true, Option.bind_some]; rfl
end Sm

/-! SmX14: sorted of a list of pairs (int, anything), the ints unlike -/
namespace SrtO
open PySem PyProof.Rows Srt
section
variable {prog : Program} {w : World} {A : Around} {E : Value → Shared → Prop} {s : Shared}
def IsKP (h : Heap) (v : Value) (x : Int) : Prop := ∃ a o t y n, v = .ref a ∧ h.get? a = some o ∧ o.cls = .type "tuple" ∧ o.data = .seq #[.int x t, y] n
theorem IsKP.keeps {h h' : Heap} {v : Value} {x : Int} (p : IsKP h v x) (k : ∀ b o, h.get? b = some o → o.cls = .type "tuple" → h'.get? b = some o) : IsKP h' v x := by
  obtain ⟨a, o, t, u, n, e, ho, hc, hd⟩ := p
  exact ⟨a, o, t, u, n, e, k _ _ ho hc, hc, hd⟩
theorem swo_key (k : Value → Int) : Swo fun v u => decide (k v < k u) := by
  refine ⟨fun x y h => ?_, fun x y z h1 h2 => ?_⟩
  · have a := of_decide_eq_true h
    exact decide_eq_false (by omega)
  · have a := of_decide_eq_false h1
    have b := of_decide_eq_false h2
    exact decide_eq_false (by omega)
theorem key_cmp {vs : List Value} {k : Value → Int} (hp : ∀ v ∈ vs, IsKP s.heap v (k v)) (hi : ∀ v ∈ vs, ∀ u ∈ vs, k v = k u → v = u) : Cmp prog w A s (tuples' true) (fun p => p.1 ∈ vs) (lt2 fun v u => decide (k v < k u)) := by
  intro p q hm hm'
  have h1 := hp _ hm
  have h2 := hp _ hm'
  have h3 := hi _ hm _ hm'
  show wpAny (model prog w) A (keyLt' (tuples' true) p.1 q.1) (fun r s' => s' = s ∧ r = decide (k p.1 < k q.1)) (fun _ _ => False) s
  generalize k p.1 = x at h1 h3 ⊢
  generalize k q.1 = x' at h2 h3 ⊢
  obtain ⟨a, o, t, u, n, e, ho, hc, hd⟩ := h1
  obtain ⟨a', o', t', u', n', e', ho', hc', hd'⟩ := h2
  rw [e, e'] at h3 ⊢
  refine PySem.W.kat_lt ho hd ho' hd' ?_
  show PySem.W.KatLex prog w A true (decide (2 < 2)) _ [(.int x t, .int x' t'), (u, u')] 0 s
  refine PySem.W.kat_cons (SeqAt.EqAt.int_int x t x' t' prog w _ _ ?_)
  refine PySem.W.kat_go (fun e1 => ?_) (fun e1 => ?_)
  · have ex : x = x' := by simpa using e1
    have ea := h3 ex
    injection ea with ea
    subst ea
    rw [ho] at ho'
    cases ho'
    rw [hd] at hd'
    injection hd' with hd' _
    have eu : u = u' := by
      have := congrArg (fun z : Array Value => z.toList) hd'
      simp at this
      exact this.2
    subst eu
    refine PySem.W.kat_yes (PySem.W.kat_cons (SeqAt.EqAt.same u prog w _ _ ?_))
    exact PySem.W.kat_yes (PySem.W.kat_nil ⟨rfl, (decide_eq_false (by omega)).symm⟩)
  · exact PySem.W.kat_no (oneLt_int ⟨rfl, rfl⟩)
theorem firsts_key {h : Heap} : ∀ {vs : List Value}, (∀ v ∈ vs, ∃ x, IsKP h v x) → ∃ fs : List Value, PySem.W.KatTups h vs fs ∧ fs.length = vs.length ∧ ∀ f ∈ fs, ∃ x t, f = Value.int x t
  | [], _ => ⟨[], PySem.W.KatTups.nil, rfl, fun _ hm => by simp at hm⟩
  | v :: vs, hp => by
    obtain ⟨fs, h1, h2, h3⟩ := firsts_key (vs := vs) fun v' hm => hp v' (List.mem_cons_of_mem _ hm)
    obtain ⟨x, a, o, t, u, n, e, ho, hc, hd⟩ := hp v (List.mem_cons_self ..)
    subst e
    refine ⟨.int x t :: fs, PySem.W.KatTups.cons ho hc hd rfl h1, by rw [List.length_cons, List.length_cons, h2], fun f hm => ?_⟩
    rcases List.mem_cons.mp hm with rfl | hm
    · exact ⟨x, t, rfl⟩
    · exact h3 f hm
theorem key_sortable {a : Addr} {vs : List Value} {k : Value → Int} (h0 : 0 < vs.length) (hp : ∀ v ∈ vs, IsKP s.heap v (k v)) (hi : ∀ v ∈ vs, ∀ u ∈ vs, k v = k u → v = u) (ha : ∀ o, s.heap.get? a = some o → o.cls ≠ .type "tuple") : SortableO prog w A s a vs fun v u => decide (k v < k u) := by
  intro h' keep
  have hp' : ∀ v ∈ vs, IsKP h' v (k v) := fun v hm => (hp v hm).keeps fun b o e c => keep b o (fun z => by subst z; exact ha o e c) e
  obtain ⟨fs, h1, h2, h3⟩ := firsts_key fun v hm => ⟨_, hp' v hm⟩
  refine ⟨tuples' true, fun Q E hq => ?_, key_cmp hp' hi⟩
  refine PySem.W.kat_kind (T := .type "int") h1 (by omega) (fun f hm => ?_) (by rfl) ?_
  · obtain ⟨x, t, rfl⟩ := h3 f hm
    exact PySem.W.Looks.now
  · have e : (Value.type "int" != Value.type "tuple") = true := by first | decide +kernel | rfl | decide
    rw [e]
    exact hq
theorem sorted_key {l : Addr} {vs : List Value} {k : Value → Int} {Q : Value → Shared → Prop} (hl : s.heap.IsList l vs.toArray) (hz : vs.length ≤ sizeLine) (hp : ∀ v ∈ vs, IsKP s.heap v (k v)) (hi : ∀ v ∈ vs, ∀ u ∈ vs, k v = k u → v = u)
    (h : ∀ (h' : Heap) (d : Addr) (out : List Value), Srtd (fun v u => decide (k v < k u)) out → Stb (fun v u => decide (k v < k u)) out vs → (∀ b o, s.heap.get? b = some o → h'.get? b = some o) → s.heap.objs.size ≤ d → (∃ n, h'.get? d = some (seqObj "list" out.toArray n)) → Q (.ref d) { s with heap := h' }) :
    wpAny (model prog w) A (call (.builtin "sorted") [.ref l]) Q E s := by
  refine sorted_ord (swo_key k) hl hz (fun h2 h₁ a ha kk => ?_) fun out hs hb => ?_
  · refine key_sortable (s := { s with heap := h₁ }) (by omega) (fun v hm => (hp v hm).keeps fun b o e _ => (kk b o e).2) hi fun o e => ?_
    have e' : some o = some (seqObj "list" vs.toArray 0) := e.symm.trans ha
    cases e'
    intro c
    exact absurd (Value.type.inj c) (by decide)
  · exact h _ _ out hs hb (fun b o e => sortedAll_old e) (Nat.le_succ _) (sortedAll_at s.heap vs out.toArray)
end
end SrtO
namespace Sm
open PySem PySem.Spec PyProof.Rows L2
section
variable {K : PySem.W.Frag}
def insK (x : Int × PyData) : List (Int × PyData) → List (Int × PyData)
  | [] => [x]
  | y :: r => if x.1 < y.1 then x :: y :: r else y :: insK x r
def srtK : List (Int × PyData) → List (Int × PyData)
  | [] => []
  | x :: r => insK x (srtK r)
theorem insK_perm (x : Int × PyData) : ∀ l, (insK x l).Perm (x :: l)
  | [] => List.Perm.refl _
  | y :: r => by
    unfold insK
    split
    · exact List.Perm.refl _
    · exact ((insK_perm x r).cons y).trans (List.Perm.swap x y r)
theorem srtK_perm : ∀ l, (srtK l).Perm l
  | [] => List.Perm.refl _
  | x :: r => (insK_perm x (srtK r)).trans ((srtK_perm r).cons x)
theorem insK_sorted (x : Int × PyData) : ∀ l, l.Pairwise (fun a b => a.1 ≤ b.1) → (insK x l).Pairwise (fun a b => a.1 ≤ b.1)
  | [], _ => List.pairwise_singleton _ _
  | y :: r, h => by
    obtain ⟨h1, h2⟩ := List.pairwise_cons.mp h
    unfold insK
    split
    · rename_i hx
      refine List.pairwise_cons.mpr ⟨fun z hz => ?_, h⟩
      rcases List.mem_cons.mp hz with e | e
      · rw [e]; omega
      · have := h1 z e; omega
    · rename_i hx
      refine List.pairwise_cons.mpr ⟨fun z hz => ?_, insK_sorted x r h2⟩
      rcases List.mem_cons.mp ((insK_perm x r).mem_iff.mp hz) with e | e
      · rw [e]; omega
      · exact h1 z e
theorem srtK_sorted : ∀ l, (srtK l).Pairwise (fun a b => a.1 ≤ b.1)
  | [] => List.Pairwise.nil
  | x :: r => insK_sorted x _ (srtK_sorted r)
/-- by unlike keys there is one order alone -/
theorem key_one {α : Type} : ∀ {a b : List (Int × α)}, a.Perm b → (a.map Prod.fst).Nodup → a.Pairwise (fun x y => x.1 ≤ y.1) → b.Pairwise (fun x y => x.1 ≤ y.1) → a = b
  | [], _, p, _, _, _ => (List.Perm.nil_eq p)
  | x :: a, [], p, _, _, _ => by have := p.length_eq; simp at this
  | x :: a, y :: b, p, nd, ha, hb => by
    obtain ⟨a1, a2⟩ := List.pairwise_cons.mp ha
    obtain ⟨b1, b2⟩ := List.pairwise_cons.mp hb
    rw [List.map_cons, List.nodup_cons] at nd
    have e : x = y := by
      rcases List.mem_cons.mp (p.mem_iff.mp List.mem_cons_self) with e | e
      · exact e
      · rcases List.mem_cons.mp (p.mem_iff.mpr List.mem_cons_self) with f | f
        · exact f.symm
        · have h1 := a1 y f
          have h2 := b1 x e
          have h3 : x.1 = y.1 := by omega
          exact absurd (h3 ▸ List.mem_map_of_mem f) nd.1
    subst e
    rw [key_one (List.Perm.cons_inv p) nd.2 a2 b2]
theorem perm_lift {α β : Type} {f : α → β} : ∀ {zs m : List β}, zs.Perm m → ∀ l : List α, l.map f = m → ∃ ws : List α, ws.Perm l ∧ ws.map f = zs := by
  intro zs m h
  induction h with
  | nil =>
    intro l e
    rw [List.map_eq_nil_iff] at e
    subst e
    exact ⟨[], List.Perm.refl _, rfl⟩
  | cons x _ ih =>
    intro l e
    match l, e with
    | a :: l, e =>
      rw [List.map_cons] at e
      injection e with e1 e2
      obtain ⟨ws, h1, h2⟩ := ih l e2
      exact ⟨a :: ws, h1.cons a, by rw [List.map_cons, e1, h2]⟩
  | swap x y r =>
    intro l e
    match l, e with
    | a :: b :: l, e =>
      rw [List.map_cons, List.map_cons] at e
      injection e with e1 e2
      injection e2 with e2 e3
      exact ⟨b :: a :: l, List.Perm.swap a b l, by rw [List.map_cons, List.map_cons, e1, e2, e3]⟩
    | [a], e => simp at e
  | trans _ _ ih1 ih2 =>
    intro l e
    obtain ⟨ws, h1, h2⟩ := ih2 l e
    obtain ⟨us, h3, h4⟩ := ih1 ws h2
    exact ⟨us, h3.trans h1, h4⟩
def keysOf : List PyData → Option (List (Int × PyData))
  | [] => some []
  | .tuple [.int i, x] :: r => (keysOf r).bind fun ps => some ((i, x) :: ps)
  | _ => none
def nodupB : List Int → Bool
  | [] => true
  | x :: r => !r.contains x && nodupB r
theorem nodupB_iff : ∀ l : List Int, nodupB l = true ↔ l.Nodup
  | [] => by simp [nodupB]
  | x :: r => by simp [nodupB, nodupB_iff r, List.nodup_cons]
def fSortK : Mem → SV → Option SV := fun _ x => match x with
  | .dat (.list ds) => (keysOf ds).bind fun ps => if nodupB (ps.map Prod.fst) = true then some (.dat (.list ((srtK ps).map fun q => PyData.tuple [.int q.1, q.2]))) else none
  | _ => none
def rSrtKy (K : PySem.W.Frag) : V → Hp → VK → Prop := fun x H Q => ∃ (a : Addr) (xs : List V) (ks : List Int), x = .ref a ∧ SqL K H a xs ∧ xs.length = ks.length ∧ ks.Nodup ∧ (∀ z ∈ xs.zip ks, ∃ t u, z.1 = V.ref t ∧ SqT K H t [.int z.2, u]) ∧
  ∀ (zs : List (V × Int)) (p : Addr), zs.Perm (xs.zip ks) → zs.Pairwise (fun a b => a.2 ≤ b.2) → H p = none → Q (.ref p) (upd H p (.lst (zs.map Prod.fst)))
open Classical in
theorem call_sortK {X : Cx} : CallR X (.builtin "sorted") (fun xs H Q => ∃ x, xs = [x] ∧ rSrtKy X.K x H Q) := by
  intro pins s σ H vs us Q I r h
  obtain ⟨x, rfl, a, xs, ps, rfl, hs, hl, nd, hx, q⟩ := h
  obtain ⟨its, rv, pl, hz⟩ := I.list hs
  obtain ⟨u, rfl, ru⟩ := vals1 r
  obtain rfl : u = Value.ref a := ru
  obtain ⟨k, hk⟩ : ∃ k : V → Int, ∀ z ∈ xs.zip ps, k z.1 = z.2 := by
    refine ⟨fun v => if h : ∃ c : Int, (v, c) ∈ xs.zip ps then h.choose else 0, fun z hz' => ?_⟩
    have hc : ∃ c : Int, (z.1, c) ∈ xs.zip ps := ⟨z.2, hz'⟩
    show (if h : ∃ c : Int, (z.1, c) ∈ xs.zip ps then h.choose else 0) = z.2
    rw [dif_pos hc]
    obtain ⟨t, u, e1, f1⟩ := hx _ hz'
    obtain ⟨t', u', e2, f2⟩ := hx _ hc.choose_spec
    have e : V.ref t = V.ref t' := e1.symm.trans e2
    cases e
    have := I.tuple_inj f2 f1
    simp only [List.cons.injEq, V.int.injEq, and_true] at this
    exact this.1
  have hzip : xs.zip ps = xs.map fun v => (v, k v) := by
    clear hx q rv hs hz nd
    induction xs generalizing ps with
    | nil => rfl
    | cons v xs ih =>
      cases ps with
      | nil => simp at hl
      | cons c ps =>
        have h1 : k v = c := hk (v, c) (by simp)
        rw [List.zip_cons_cons, List.map_cons, h1, ih ps (by simpa using hl) fun z hz => hk z (by rw [List.zip_cons_cons]; exact List.mem_cons_of_mem _ hz)]
  have hps : xs.map k = ps := by
    have := congrArg (List.map Prod.snd) hzip
    rw [List.map_snd_zip (by omega), List.map_map] at this
    exact this.symm
  have ref_of : ∀ v ∈ xs, ∃ t u, v = V.ref t ∧ SqT X.K H t [.int (k v), u] := fun v hv => by
    have : (v, k v) ∈ xs.zip ps := by rw [hzip]; exact List.mem_map.mpr ⟨v, hv, rfl⟩
    exact hx _ this
  have kinj : ∀ v ∈ xs, ∀ u ∈ xs, k v = k u → v = u := by
    have nd' : (xs.map k).Nodup := by rw [hps]; exact nd
    clear hx q rv hs hz nd hzip ref_of hk hl hps
    induction xs with
    | nil => intro v hv; cases hv
    | cons y xs ih =>
      rw [List.map_cons, List.nodup_cons] at nd'
      intro v hv u hu e
      rcases List.mem_cons.mp hv with z1 | z1
      · rcases List.mem_cons.mp hu with z2 | z2
        · rw [z1, z2]
        · rw [z1] at e
          exact absurd (e ▸ List.mem_map_of_mem z2) nd'.1
      · rcases List.mem_cons.mp hu with z2 | z2
        · rw [z2] at e
          exact absurd (e ▸ List.mem_map_of_mem z1) nd'.1
        · exact ih nd'.2 v z1 u z2 e
  obtain ⟨e1, e2⟩ := refs_back rv fun v m => let ⟨t, _, e, _⟩ := ref_of v m; ⟨t, e⟩
  have mem_of : ∀ v ∈ its, backV v ∈ xs := fun v hv => by rw [e1]; exact List.mem_map.mpr ⟨_, hv, rfl⟩
  refine SrtO.sorted_key (k := fun u => k (backV u)) pl.isList (by rw [← rv.length]; exact hz) (fun v hv => ?_) (fun v hv u hu e => ?_) fun h' d out h1 h2 kp hd hn => ?_
  · obtain ⟨t, rfl⟩ := e2 v hv
    obtain ⟨t', u', e, ht⟩ := ref_of (V.ref t) (by rw [e1]; exact List.mem_map.mpr ⟨_, hv, rfl⟩)
    cases e
    obtain ⟨its2, r2, ⟨o, ho, hc, n, hd⟩, _⟩ := I.tuple ht
    obtain ⟨u1, u2, rfl, ⟨t1, rfl⟩, _⟩ := vals2 r2
    exact ⟨t, o, t1, u2, n, rfl, ho, hc, hd⟩
  · have hb := kinj _ (mem_of v hv) _ (mem_of u hu) e
    obtain ⟨t, rfl⟩ := e2 v hv
    obtain ⟨t', rfl⟩ := e2 u hu
    have : V.ref t = V.ref t' := hb
    cases this
    rfl
  · obtain ⟨n, hn⟩ := hn
    have h3 : ∀ u ∈ out, ∃ a, u = Value.ref a := fun u hu => e2 u (h2.perm.mem_iff.mp hu)
    have hpm : (out.map backV).Perm xs := by rw [e1]; exact h2.perm.map backV
    have hq := q ((out.map backV).map fun v => (v, k v)) d (by rw [hzip]; exact hpm.map _) (by
      rw [List.pairwise_map, List.pairwise_map]
      exact h1.imp fun hh => by have := of_decide_eq_false hh; simp only; omega) (I.hok.fresh hd)
    have e3 : ((out.map backV).map fun v => (v, k v)).map Prod.fst = out.map backV := by rw [List.map_map]; exact List.map_id _
    rw [e3] at hq
    exact ⟨.ref d, upd H d (.lst (out.map backV)), I.laid (t' := s.toks) kp hd ⟨by rw [hpm.length_eq]; exact hz, out, n, vals_back h3, hn⟩, rfl, hq⟩
theorem keys_dq {G : Hp} : ∀ {ds : List PyData} {ps : List (Int × PyData)} {xs : List V}, keysOf ds = some ps → DqAll K G xs ds → xs.length = ps.length ∧ ∀ z ∈ xs.zip ps, ∃ t u, z.1 = V.ref t ∧ SqT K G t [.int z.2.1, u] ∧ Dq K G u z.2.2
  | [], ps, xs, h, d => by
    cases d; cases h
    exact ⟨rfl, by simp⟩
  | d :: ds, ps, xs, h, dq => by
    unfold keysOf at h
    split at h
    · rename_i e; cases e
    · rename_i i x r e
      cases e
      obtain ⟨qs, h1, h2⟩ := Option.bind_eq_some_iff.mp h
      cases h2
      cases dq with
      | cons d1 d2 =>
        obtain ⟨l1, l2⟩ := keys_dq h1 d2
        refine ⟨by simp [l1], fun z hz => ?_⟩
        rw [List.zip_cons_cons] at hz
        rcases List.mem_cons.mp hz with e | e
        · subst e
          cases d1 with
          | tup hs ha =>
            cases ha with
            | cons b1 ha =>
              cases ha with
              | cons b2 ha =>
                cases ha; cases b1
                exact ⟨_, _, rfl, hs, b2⟩
        · exact l2 z e
    · cases h
theorem us_sortK : UnS K (rSrtKy K) fSortK := by
  intro M x z e F π G H v R s Q q
  unfold fSortK at e
  split at e
  · rename_i ds
    obtain ⟨ps, h1, h2⟩ := Option.bind_eq_some_iff.mp e
    split at h2
    case isFalse => cases h2
    rename_i hnd
    cases h2
    cases s with
    | dat d =>
      cases d with
      | lst hs ha =>
        rename_i a xs
        obtain ⟨l1, l2⟩ := keys_dq h1 ha
        have zm : (xs.zip ps).map (fun z => (z.1, z.2.1)) = xs.zip (ps.map Prod.fst) := by
          rw [List.zip_map_right]; rfl
        refine ⟨a, xs, ps.map Prod.fst, rfl, R.ex.seq hs, by rw [List.length_map]; exact l1, (nodupB_iff _).mp hnd, fun z hz => ?_, fun zs p hp hso hn => ?_⟩
        · rw [← zm] at hz
          obtain ⟨y, hy, rfl⟩ := List.mem_map.mp hz
          obtain ⟨t, u, e1, e2, _⟩ := l2 y hy
          exact ⟨t, u, e1, same_sqT R.ex e2⟩
        · have sg : Same G (upd G p (.lst (zs.map Prod.fst))) := same_upd (none_of_same R.ex hn)
          -- the pairs as they come out
          obtain ⟨ws, hws, ewz⟩ : ∃ ws : List (V × (Int × PyData)), ws.Perm (xs.zip ps) ∧ ws.map (fun z => (z.1, z.2.1)) = zs := by
            rw [← zm] at hp
            obtain ⟨ws, h3, h4⟩ := perm_lift hp _ rfl
            exact ⟨ws, h3, h4⟩
          have hps : (ws.map Prod.snd) = srtK ps := by
            have pm : (ws.map Prod.snd).Perm ps := by
              have := hws.map Prod.snd
              rwa [List.map_snd_zip (Nat.le_of_eq l1.symm)] at this
            refine key_one (pm.trans (srtK_perm ps).symm) ?_ ?_ (srtK_sorted ps)
            · exact ((pm.map Prod.fst).nodup_iff).mpr ((nodupB_iff _).mp hnd)
            · rw [List.pairwise_map]
              rw [← ewz, List.pairwise_map] at hso
              exact hso
          refine q (upd G p (.lst (zs.map Prod.fst))) _ _ (.new hn) (.dat (.lst (SqL.of upd_same) ?_))
          rw [← hps, ← ewz, List.map_map]
          have all : ∀ z ∈ ws, ∃ t u, z.1 = V.ref t ∧ SqT K G t [.int z.2.1, u] ∧ Dq K G u z.2.2 := fun z hz => l2 z (hws.mem_iff.mp hz)
          rw [← ewz, List.map_map] at sg
          clear hp hso hps hn ewz hws
          have : ∀ (W : Hp), Same G W → ∀ ws : List (V × (Int × PyData)), (∀ z ∈ ws, ∃ t u, z.1 = V.ref t ∧ SqT K G t [.int z.2.1, u] ∧ Dq K G u z.2.2) → DqAll K W (ws.map (Prod.fst ∘ fun z => (z.1, z.2.1))) ((ws.map Prod.snd).map fun q => PyData.tuple [.int q.1, q.2]) := by
            intro W sw ws
            induction ws with
            | nil => intro _; exact .nil
            | cons z zs ih =>
              intro h
              obtain ⟨t, u, e1, e2, e3⟩ := h z List.mem_cons_self
              rw [List.map_cons, List.map_cons, List.map_cons]
              show DqAll K W (z.1 :: _) _
              rw [e1]
              exact .cons (.tup (same_sqT sw e2) (.cons (.int _) (.cons (e3.mono sw) .nil))) (ih fun y hy => h y (List.mem_cons_of_mem _ hy))
          exact this _ sg ws all
  · cases e
end
end Sm

namespace Lk38
open PySem PySem.Spec PyProof.Rows L2 Sm
/-! ### the text -/
def topS (i : Nat) : Stmt := PySem.Challenge.pw_toldpieces_k38_whole_one_asked_fewer.main.body.getD i (.Pass ⟨0, 0, 0, 0⟩)
abbrev s_xdraws : Stmt := topS 31
abbrev N_xdraws : List Str := ["_law_script", "_law_cells", "_law_cell"]
theorem sc_xdraws : FnScope N_xdraws ["_law_script"] (defScope s_xdraws) := ⟨rfl, rfl, rfl, by decide +kernel, rfl, by decide +kernel, by decide +kernel⟩
abbrev s_xnext : Stmt := topS 32
abbrev N_xnext : List Str := ["_law_drawn", "_law_many", "_law_cells", "_law_nth", "_law_rests", "_law_spot", "_law_digit", "_law_mixed", "_law_more"]
theorem sc_xnext : FnScope N_xnext ["_law_drawn", "_law_many"] (defScope s_xnext) := ⟨rfl, rfl, rfl, by decide +kernel, rfl, by decide +kernel, by decide +kernel⟩
abbrev s_xprime : Stmt := topS 33
abbrev N_xprime : List Str := ["_law_drawn"]
theorem sc_xprime : FnScope N_xprime ["_law_drawn"] (defScope s_xprime) := ⟨rfl, rfl, rfl, by decide +kernel, rfl, by decide +kernel, by decide +kernel⟩
abbrev s_xxs : Stmt := topS 34
abbrev N_xxs : List Str := ["_law_drawn", "_law_p", "_law_many", "_law_some", "_law_k", "_law_x"]
theorem sc_xxs : FnScope N_xxs ["_law_drawn", "_law_p", "_law_many"] (defScope s_xxs) := ⟨rfl, rfl, rfl, by decide +kernel, rfl, by decide +kernel, by decide +kernel⟩
abbrev s_fitting_many : Stmt := topS 28
abbrev N_fitting_many : List Str := ["xs", "b"]
theorem sc_fitting_many : FnScope N_fitting_many ["xs", "b"] (defScope s_fitting_many) := ⟨rfl, rfl, rfl, by decide +kernel, rfl, by decide +kernel, by decide +kernel⟩
abbrev s_with_multiple : Stmt := topS 5
abbrev N_with_multiple : List Str := ["p", "row", "other", "factor", "rest", "more"]
theorem sc_with_multiple : FnScope N_with_multiple ["p", "row", "other", "factor"] (defScope s_with_multiple) := ⟨rfl, rfl, rfl, by decide +kernel, rfl, by decide +kernel, by decide +kernel⟩
abbrev s_with_nought_at : Stmt := topS 13
abbrev N_with_nought_at : List Str := ["p", "row", "x"]
theorem sc_with_nought_at : FnScope N_with_nought_at ["p", "row", "x"] (defScope s_with_nought_at) := ⟨rfl, rfl, rfl, by decide +kernel, rfl, by decide +kernel, by decide +kernel⟩
abbrev s_worth_at : Stmt := topS 11
abbrev N_worth_at : List Str := ["p", "row", "x", "worth", "rest"]
theorem sc_worth_at : FnScope N_worth_at ["p", "row", "x"] (defScope s_worth_at) := ⟨rfl, rfl, rfl, by decide +kernel, rfl, by decide +kernel, by decide +kernel⟩
abbrev s_two_fitting : Stmt := topS 29
abbrev N_two_fitting : List Str := ["p", "xs", "b", "many", "one", "other", "x", "rests"]
theorem sc_two_fitting : FnScope N_two_fitting ["p", "xs", "b"] (defScope s_two_fitting) := ⟨rfl, rfl, rfl, by decide +kernel, rfl, by decide +kernel, by decide +kernel⟩
abbrev s_xone_more : Stmt := topS 38
abbrev N_xone_more : List Str := ["_law_drawn", "_law_p", "_law_xs_here", "_law_x"]
theorem sc_xone_more : FnScope N_xone_more ["_law_drawn", "_law_p", "_law_xs_here"] (defScope s_xone_more) := ⟨rfl, rfl, rfl, by decide +kernel, rfl, by decide +kernel, by decide +kernel⟩
abbrev s_groups_of : Stmt := topS 8
abbrev N_groups_of : List Str := ["things", "many", "groups", "at", "others"]
theorem sc_groups_of : FnScope N_groups_of ["things", "many"] (defScope s_groups_of) := ⟨rfl, rfl, rfl, by decide +kernel, rfl, by decide +kernel, by decide +kernel⟩
abbrev s_contrary : Stmt := topS 6
abbrev N_contrary : List Str := ["p", "a", "high", "low", "high_factor", "low_factor", "times"]
theorem sc_contrary : FnScope N_contrary ["p", "a"] (defScope s_contrary) := ⟨rfl, rfl, rfl, by decide +kernel, rfl, by decide +kernel, by decide +kernel⟩
abbrev s_through : Stmt := topS 12
abbrev N_through : List Str := ["p", "pairs", "row", "vanishing", "x", "rest", "missing", "factor"]
theorem sc_through : FnScope N_through ["p", "pairs"] (defScope s_through) := ⟨rfl, rfl, rfl, by decide +kernel, rfl, by decide +kernel, by decide +kernel⟩
abbrev s_misfits : Stmt := topS 27
abbrev N_misfits : List Str := ["p", "row", "pairs", "x", "rest"]
theorem sc_misfits : FnScope N_misfits ["p", "row", "pairs"] (defScope s_misfits) := ⟨rfl, rfl, rfl, by decide +kernel, rfl, by decide +kernel, by decide +kernel⟩
abbrev s_fitting : Stmt := topS 26
abbrev N_fitting : List Str := ["p", "many", "pairs", "most", "group", "row", "xs"]
theorem sc_fitting : FnScope N_fitting ["p", "many", "pairs"] (defScope s_fitting) := ⟨rfl, rfl, rfl, by decide +kernel, rfl, by decide +kernel, by decide +kernel⟩
abbrev s_xvalue : Stmt := topS 35
abbrev N_xvalue : List Str := ["_law_p", "_law_row", "_law_x", "_law_value_here", "_law_rest"]
theorem sc_xvalue : FnScope N_xvalue ["_law_p", "_law_row", "_law_x"] (defScope s_xvalue) := ⟨rfl, rfl, rfl, by decide +kernel, rfl, by decide +kernel, by decide +kernel⟩
abbrev s_xrows_right : Stmt := topS 39
abbrev N_xrows_right : List Str := ["_law_drawn", "_law_p", "_law_xs_here", "_law_b", "_law_word", "_law_one", "_law_other", "_law_rests", "_law_x", "_law_row", "_law_pairs", "_law_liars", "_law_y", "_law_rest"]
theorem sc_xrows_right : FnScope N_xrows_right ["_law_drawn"] (defScope s_xrows_right) := ⟨rfl, rfl, rfl, by decide +kernel, rfl, by decide +kernel, by decide +kernel⟩
abbrev s_xshape : Stmt := topS 36
abbrev N_xshape : List Str := ["_law_drawn", "_law_most", "_law_d", "_law_k"]
theorem sc_xshape : FnScope N_xshape ["_law_drawn", "_law_most"] (defScope s_xshape) := ⟨rfl, rfl, rfl, by decide +kernel, rfl, by decide +kernel, by decide +kernel⟩
abbrev s_alike_on : Stmt := topS 20
abbrev N_alike_on : List Str := ["shape", "xs", "p", "k", "d", "dice_rows", "vanishing", "x", "row", "one", "other"]
theorem sc_alike_on : FnScope N_alike_on ["shape", "xs"] (defScope s_alike_on) := ⟨rfl, rfl, rfl, by decide +kernel, rfl, by decide +kernel, by decide +kernel⟩
abbrev s_powers_of : Stmt := topS 10
abbrev N_powers_of : List Str := ["p", "many", "x", "powers", "power", "at"]
theorem sc_powers_of : FnScope N_powers_of ["p", "many", "x"] (defScope s_powers_of) := ⟨rfl, rfl, rfl, by decide +kernel, rfl, by decide +kernel, by decide +kernel⟩
abbrev s_keeps_of : Stmt := topS 17
abbrev N_keeps_of : List Str := ["shape", "table", "x", "p", "k", "d", "dice_rows", "kept", "row", "power"]
theorem sc_keeps_of : FnScope N_keeps_of ["shape", "table", "x"] (defScope s_keeps_of) := ⟨rfl, rfl, rfl, by decide +kernel, rfl, by decide +kernel, by decide +kernel⟩
abbrev s_two_read : Stmt := topS 24
abbrev N_two_read : List Str := ["shape", "xs", "b", "p", "k", "d", "dice_rows", "one", "other", "rows", "x"]
theorem sc_two_read : FnScope N_two_read ["shape", "xs", "b"] (defScope s_two_read) := ⟨rfl, rfl, rfl, by decide +kernel, rfl, by decide +kernel, by decide +kernel⟩
abbrev s_column_through : Stmt := topS 19
abbrev N_column_through : List Str := ["p", "k", "column", "pairs", "lower", "below", "upper", "x", "row"]
theorem sc_column_through : FnScope N_column_through ["p", "k", "column", "pairs", "lower"] (defScope s_column_through) := ⟨rfl, rfl, rfl, by decide +kernel, rfl, by decide +kernel, by decide +kernel⟩
abbrev s_is_number : Stmt := topS 1
abbrev N_is_number : List Str := ["thing"]
theorem sc_is_number : FnScope N_is_number ["thing"] (defScope s_is_number) := ⟨rfl, rfl, rfl, by decide +kernel, rfl, by decide +kernel, by decide +kernel⟩
abbrev s_is_rest : Stmt := topS 2
abbrev N_is_rest : List Str := ["p", "thing"]
theorem sc_is_rest : FnScope N_is_rest ["p", "thing"] (defScope s_is_rest) := ⟨rfl, rfl, rfl, by decide +kernel, rfl, by decide +kernel, by decide +kernel⟩
abbrev s_is_row : Stmt := topS 3
abbrev N_is_row : List Str := ["p", "many", "thing", "rest"]
theorem sc_is_row : FnScope N_is_row ["p", "many", "thing"] (defScope s_is_row) := ⟨rfl, rfl, rfl, by decide +kernel, rfl, by decide +kernel, by decide +kernel⟩
abbrev s_are_rows : Stmt := topS 4
abbrev N_are_rows : List Str := ["p", "n", "many", "thing", "row"]
theorem sc_are_rows : FnScope N_are_rows ["p", "n", "many", "thing"] (defScope s_are_rows) := ⟨rfl, rfl, rfl, by decide +kernel, rfl, by decide +kernel, by decide +kernel⟩
abbrev s_is_table : Stmt := topS 15
abbrev N_is_table : List Str := ["shape", "thing", "p", "k", "d", "dice_rows", "row", "column"]
theorem sc_is_table : FnScope N_is_table ["shape", "thing"] (defScope s_is_table) := ⟨rfl, rfl, rfl, by decide +kernel, rfl, by decide +kernel, by decide +kernel⟩
abbrev s_read_back : Stmt := topS 18
abbrev N_read_back : List Str := ["shape", "pairs", "p", "k", "d", "dice_rows", "columns", "column", "lower", "table", "row"]
theorem sc_read_back : FnScope N_read_back ["shape", "pairs"] (defScope s_read_back) := ⟨rfl, rfl, rfl, by decide +kernel, rfl, by decide +kernel, by decide +kernel⟩
abbrev s_keeping_others : Stmt := topS 23
abbrev N_keeping_others : List Str := ["shape", "table", "pairs", "x", "row"]
theorem sc_keeping_others : FnScope N_keeping_others ["shape", "table", "pairs"] (defScope s_keeping_others) := ⟨rfl, rfl, rfl, by decide +kernel, rfl, by decide +kernel, by decide +kernel⟩
abbrev s_read_right : Stmt := topS 22
abbrev N_read_right : List Str := ["shape", "pairs", "k", "most", "group", "table", "xs"]
theorem sc_read_right : FnScope N_read_right ["shape", "pairs"] (defScope s_read_right) := ⟨rfl, rfl, rfl, by decide +kernel, rfl, by decide +kernel, by decide +kernel⟩
abbrev s_xkept : Stmt := topS 37
abbrev N_xkept : List Str := ["_law_p", "_law_rows", "_law_x", "_law_some", "_law_column", "_law_row"]
theorem sc_xkept : FnScope N_xkept ["_law_p", "_law_rows", "_law_x"] (defScope s_xkept) := ⟨rfl, rfl, rfl, by decide +kernel, rfl, by decide +kernel, by decide +kernel⟩
abbrev s_xtables_right : Stmt := topS 40
abbrev N_xtables_right : List Str := ["_law_drawn", "_law_shape_here", "_law_p", "_law_k", "_law_d", "_law_dice", "_law_b", "_law_xs_here", "_law_word", "_law_one", "_law_other", "_law_rows", "_law_x", "_law_some", "_law_pairs", "_law_liars", "_law_y", "_law_row"]
theorem sc_xtables_right : FnScope N_xtables_right ["_law_drawn"] (defScope s_xtables_right) := ⟨rfl, rfl, rfl, by decide +kernel, rfl, by decide +kernel, by decide +kernel⟩
abbrev s_law : Stmt := topS 41
abbrev N_law : List Str := ["_law_script", "_law_drawn", "_law_turn"]
theorem sc_law : FnScope N_law ["_law_script"] (defScope s_law) := ⟨rfl, rfl, rfl, by decide +kernel, rfl, by decide +kernel, by decide +kernel⟩
/-! ### the plain functions -/
abbrev B_xdraws_1 : SS :=
  (sAsg (eOp (lift2 dAdd) (eCB (one fList) (aCons (eSl fSl (eVar 0) oNone (oSome (eC (.int 63)))) aNil)) (eFrz (eRepN (eNew (aCons (eC (.int 0)) aNil)) (eCB (one (lift1 dInt)) (aCons (eOp (lift2 dEq) (eCB (one fLen) (aCons (eVar 0) aNil)) (eC (.int 0))) aNil))))) (gNm 1))
abbrev B_xdraws_2 : SS :=
  (sRet (eNew (aCons (eVar 1) (aCons (eC (.int 0)) (aCons (eLcN (iDat (eVar 1)) (gNm 2) bYes (eOp (lift2 dMul) (eVar 2) (eCB (one (lift1 dInt)) (aCons (eOp (lift2 dGe) (eVar 2) (eOp (lift2 dPow) (eC (.int 10)) (eC (.int 18)))) aNil))) [2]) aNil)))))
abbrev B_xdraws : SS :=
  (sSeq B_xdraws_1
    B_xdraws_2)
def F_xdraws : SF := mkF 3 B_xdraws
abbrev B_xnext_1 : SS :=
  (sAsg (eVar 0) (gTpC [2, 3, 4]))
abbrev B_xnext_2 : SS :=
  (sAsg (eOp (lift2 dMod) (eVar 3) (eCB (one fLen) (aCons (eVar 2) aNil))) (gNm 5))
abbrev B_xnext_3 : SS :=
  (sAsg (eOp (lift2 dAdd) (eVar 3) (eC (.int 1))) (gStore (eVar 0) (eC (.int 1))))
abbrev B_xnext_4 : SS :=
  (sIf (bVal (eOp (lift2 dGt) (eOp fIx (eVar 4) (eVar 5)) (eC (.int 0)))) (sSeq (sAsg (eOp (lift2 dMod) (eOp fIx (eVar 4) (eVar 5)) (eVar 1)) (gNm 6))
    (sSeq (sAsg (eOp (lift2 dDiv) (eOp fIx (eVar 4) (eVar 5)) (eVar 1)) (gStore (eVar 4) (eVar 5)))
    (sRet (eVar 6)))) sNext)
abbrev B_xnext_5 : SS :=
  (sAsg (eOp (lift2 dMod) (eOp (lift2 dPow) (eOp (lift2 dAdd) (eOp (lift2 dAdd) (eOp (lift2 dMod) (eOp fIx (eVar 2) (eVar 5)) (eC (.int 2147483647))) (eOp (lift2 dMul) (eC (.int 69621)) (eVar 3))) (eC (.int 30269))) (eC (.int 3))) (eC (.int 2147483629))) (gNm 7))
abbrev B_xnext_6 : SS :=
  (sAsg (eOp (lift2 dMod) (eOp (lift2 dPow) (eOp (lift2 dAdd) (eOp (lift2 dAdd) (eVar 7) (eOp (lift2 dMul) (eOp (lift2 dMul) (eC (.int 6007)) (eVar 3)) (eVar 3))) (eC (.int 17))) (eC (.int 3))) (eC (.int 2147483587))) (gNm 8))
abbrev B_xnext_7 : SS :=
  (sRet (eOp (lift2 dMod) (eOp (lift2 dMod) (eOp (lift2 dAdd) (eOp (lift2 dMul) (eVar 8) (eC (.int 2147483423))) (eVar 7)) (eC (.int 4611686018427387847))) (eVar 1)))
abbrev B_xnext : SS :=
  (sSeq B_xnext_1
    (sSeq B_xnext_2
    (sSeq B_xnext_3
    (sSeq B_xnext_4
    (sSeq B_xnext_5
    (sSeq B_xnext_6
    B_xnext_7))))))
def F_xnext : SF := mkF 9 B_xnext
abbrev B_xprime : SS :=
  (sRet (eOp fIx (eLst (aCons (eC (.int 11)) (aCons (eC (.int 13)) (aCons (eC (.int 17)) (aCons (eC (.int 31)) (aCons (eC (.int 101)) (aCons (eC (.int 211)) aNil))))))) (eCall F_xnext (aCons (eVar 0) (aCons (eC (.int 6)) aNil)))))
def F_xprime : SF := mkF 1 B_xprime
abbrev B_xxs_1 : SS :=
  (sAsg (eNew aNil) (gNm 3))
abbrev B_xxs_2 : SS :=
  (sFrz 3 (sFor (iR1 (aCons (eVar 2) aNil)) (gNm 4) (sSeq (sAsg (eOp fIx (eLst (aCons (eC (.int 0)) (aCons (eOp (lift2 dSub) (eVar 1) (eC (.int 1))) (aCons (eCall F_xnext (aCons (eVar 0) (aCons (eVar 1) aNil))) (aCons (eCall F_xnext (aCons (eVar 0) (aCons (eVar 1) aNil))) aNil))))) (eCall F_xnext (aCons (eVar 0) (aCons (eC (.int 4)) aNil)))) (gNm 5))
    (sSeq (whl (bVal (eOp (fIn false) (eVar 5) (eVar 3))) (sAsg (eOp (lift2 dMod) (eOp (lift2 dAdd) (eVar 5) (eC (.int 1))) (eVar 1)) (gNm 5)) 1000)
    (sApp (eVar 3) (eVar 5))))))
abbrev B_xxs_3 : SS :=
  (sRet (eCB (one fTuple) (aCons (eCB (one fSorted) (aCons (eVar 3) aNil)) aNil)))
abbrev B_xxs : SS :=
  (sSeq B_xxs_1
    (sSeq B_xxs_2
    B_xxs_3))
def F_xxs : SF := mkF 6 B_xxs
abbrev B_fitting_many : SS :=
  (sRet (eOp (lift2 dAdd) (eOp (lift2 dSub) (eCB (one fLen) (aCons (eVar 0) aNil)) (eOp (lift2 dMul) (eC (.int 2)) (eVar 1))) (eC (.int 1))))
def F_fitting_many : SF := mkF 2 B_fitting_many
abbrev B_with_multiple : SS :=
  (sRet (eLc (iZp (aCons (eVar 1) (aCons (eVar 2) aNil))) (gTp [4, 5]) bYes (eOp (lift2 dMod) (eOp (lift2 dAdd) (eVar 4) (eOp (lift2 dMul) (eVar 3) (eVar 5))) (eVar 0)) [4, 5]))
def F_with_multiple : SF := mkF 6 B_with_multiple
abbrev B_with_nought_at : SS :=
  (sRet (eCall F_with_multiple (aCons (eVar 0) (aCons (eOp (lift2 dAdd) (eLst (aCons (eC (.int 0)) aNil)) (eVar 1)) (aCons (eOp (lift2 dAdd) (eVar 1) (eLst (aCons (eC (.int 0)) aNil))) (aCons (eUn (lift1 dNeg) (eVar 2)) aNil))))))
def F_with_nought_at : SF := mkF 3 B_with_nought_at
abbrev B_worth_at_1 : SS :=
  (sAsg (eC (.int 0)) (gNm 3))
abbrev B_worth_at_2 : SS :=
  (sFor (iRv (eVar 1)) (gNm 4) (sAsg (eOp (lift2 dMod) (eOp (lift2 dAdd) (eOp (lift2 dMul) (eVar 3) (eVar 2)) (eVar 4)) (eVar 0)) (gNm 3)))
abbrev B_worth_at_3 : SS :=
  (sRet (eVar 3))
abbrev B_worth_at : SS :=
  (sSeq B_worth_at_1
    (sSeq B_worth_at_2
    B_worth_at_3))
def F_worth_at : SF := mkF 5 B_worth_at
abbrev B_two_fitting_1 : SS :=
  (sAsg (eCall F_fitting_many (aCons (eVar 1) (aCons (eVar 2) aNil))) (gNm 3))
abbrev B_two_fitting_2 : SS :=
  (sAsg (eOp (lift2 dMul) (eTup (aCons (eC (.int 0)) aNil)) (eVar 3)) (gNm 4))
abbrev B_two_fitting_3 : SS :=
  (sAsg (eLst (aCons (eC (.int 1)) aNil)) (gNm 5))
abbrev B_two_fitting_4 : SS :=
  (sFor (iDat (eSl fSl (eVar 1) oNone (oSome (eOp (lift2 dSub) (eVar 3) (eC (.int 1)))))) (gNm 6) (sAsg (eCall F_with_nought_at (aCons (eVar 0) (aCons (eVar 5) (aCons (eVar 6) aNil)))) (gNm 5)))
abbrev B_two_fitting_5 : SS :=
  (sAsg (eOp (lift2 dAdd) (eLc (iDat (eSl fSl (eVar 1) oNone (oSome (eOp (lift2 dSub) (eCB (one fLen) (aCons (eVar 1) aNil)) (eVar 2))))) (gNm 6) bYes (eCall F_worth_at (aCons (eVar 0) (aCons (eVar 4) (aCons (eVar 6) aNil)))) [6]) (eLc (iDat (eSl fSl (eVar 1) (oSome (eOp (lift2 dSub) (eCB (one fLen) (aCons (eVar 1) aNil)) (eVar 2))) oNone)) (gNm 6) bYes (eCall F_worth_at (aCons (eVar 0) (aCons (eVar 5) (aCons (eVar 6) aNil)))) [6])) (gNm 7))
abbrev B_two_fitting_6 : SS :=
  (sRet (eTup (aCons (eC (.str (Str.ofString "two"))) (aCons (eVar 4) (aCons (eCB (one fTuple) (aCons (eVar 5) aNil)) (aCons (eCB (one fTuple) (aCons (eVar 7) aNil)) aNil))))))
abbrev B_two_fitting : SS :=
  (sSeq B_two_fitting_1
    (sSeq B_two_fitting_2
    (sSeq B_two_fitting_3
    (sSeq B_two_fitting_4
    (sSeq B_two_fitting_5
    B_two_fitting_6)))))
def F_two_fitting : SF := mkF 8 B_two_fitting
abbrev B_xone_more_1 : SS :=
  (sAsg (eCall F_xnext (aCons (eVar 0) (aCons (eVar 1) aNil))) (gNm 3))
abbrev B_xone_more_2 : SS :=
  (whl (bVal (eOp (fIn false) (eVar 3) (eVar 2))) (sAsg (eOp (lift2 dMod) (eOp (lift2 dAdd) (eVar 3) (eC (.int 1))) (eVar 1)) (gNm 3)) 1000)
abbrev B_xone_more_3 : SS :=
  (sRet (eVar 3))
abbrev B_xone_more : SS :=
  (sSeq B_xone_more_1
    (sSeq B_xone_more_2
    B_xone_more_3))
def F_xone_more : SF := mkF 4 B_xone_more
abbrev B_groups_of_1 (rec : SF) : SS :=
  (sIf (bVal (eOp (lift2 dLt) (eVar 1) (eC (.int 1)))) (sRet (eLst (aCons (eTup aNil) aNil))) sNext)
abbrev B_groups_of_2 (rec : SF) : SS :=
  (sAsg (eNew aNil) (gNm 2))
abbrev B_groups_of_3 (rec : SF) : SS :=
  (sFrz 2 (sFor (iR1 (aCons (eOp (lift2 dAdd) (eOp (lift2 dSub) (eCB (one fLen) (aCons (eVar 0) aNil)) (eVar 1)) (eC (.int 1))) aNil)) (gNm 3) (sExt (eVar 2) (eLcN (iDat (eCall rec (aCons (eSl fSl (eVar 0) (oSome (eOp (lift2 dAdd) (eVar 3) (eC (.int 1)))) oNone) (aCons (eOp (lift2 dSub) (eVar 1) (eC (.int 1))) aNil)))) (gNm 4) bYes (eOp (lift2 dAdd) (eTup (aCons (eOp fIx (eVar 0) (eVar 3)) aNil)) (eVar 4)) [4]))))
abbrev B_groups_of_4 (rec : SF) : SS :=
  (sRet (eVar 2))
abbrev B_groups_of (rec : SF) : SS :=
  (sSeq (B_groups_of_1 rec)
    (sSeq (B_groups_of_2 rec)
    (sSeq (B_groups_of_3 rec)
    (B_groups_of_4 rec))))
def F_groups_of : Nat → SF
  | 0 => fun _ _ => none
  | n + 1 => mkF 5 (B_groups_of (F_groups_of n))
abbrev B_contrary_1 : SS :=
  (sPar 2 3 (aCons (eVar 0) (aCons (eOp (lift2 dMod) (eVar 1) (eVar 0)) aNil)))
abbrev B_contrary_2 : SS :=
  (sAsg (eTup (aCons (eC (.int 0)) (aCons (eC (.int 1)) aNil))) (gTp [4, 5]))
abbrev B_contrary_3 : SS :=
  (whl (bTru (eVar 3)) (sSeq (sAsg (eOp (lift2 dDiv) (eVar 2) (eVar 3)) (gNm 6))
    (sSeq (sPar 2 3 (aCons (eVar 3) (aCons (eOp (lift2 dSub) (eVar 2) (eOp (lift2 dMul) (eVar 6) (eVar 3))) aNil)))
    (sPar 4 5 (aCons (eVar 5) (aCons (eOp (lift2 dSub) (eVar 4) (eOp (lift2 dMul) (eVar 6) (eVar 5))) aNil))))) 1000)
abbrev B_contrary_4 : SS :=
  (sRet (eOp (lift2 dMod) (eVar 4) (eVar 0)))
abbrev B_contrary : SS :=
  (sSeq B_contrary_1
    (sSeq B_contrary_2
    (sSeq B_contrary_3
    B_contrary_4)))
def F_contrary : SF := mkF 7 B_contrary
abbrev B_through_1 : SS :=
  (sAsg (eLst aNil) (gNm 2))
abbrev B_through_2 : SS :=
  (sAsg (eLst (aCons (eC (.int 1)) aNil)) (gNm 3))
abbrev B_through_3 : SS :=
  (sFor (iDat (eVar 1)) (gTp [4, 5]) (sSeq (sAsg (eOp (lift2 dSub) (eVar 5) (eCall F_worth_at (aCons (eVar 0) (aCons (eVar 2) (aCons (eVar 4) aNil))))) (gNm 6))
    (sSeq (sAsg (eOp (lift2 dMul) (eVar 6) (eCall F_contrary (aCons (eVar 0) (aCons (eCall F_worth_at (aCons (eVar 0) (aCons (eVar 3) (aCons (eVar 4) aNil)))) aNil)))) (gNm 7))
    (sSeq (sAsg (eCall F_with_multiple (aCons (eVar 0) (aCons (eOp (lift2 dAdd) (eVar 2) (eLst (aCons (eC (.int 0)) aNil))) (aCons (eVar 3) (aCons (eVar 7) aNil))))) (gNm 2))
    (sAsg (eCall F_with_nought_at (aCons (eVar 0) (aCons (eVar 3) (aCons (eVar 4) aNil)))) (gNm 3))))))
abbrev B_through_4 : SS :=
  (sRet (eCB (one fTuple) (aCons (eVar 2) aNil)))
abbrev B_through : SS :=
  (sSeq B_through_1
    (sSeq B_through_2
    (sSeq B_through_3
    B_through_4)))
def F_through : SF := mkF 8 B_through
abbrev B_misfits : SS :=
  (sRet (eCB (one fTuple) (aCons (eLc (iDat (eVar 2)) (gTp [3, 4]) (bVal (eOp (lift2 dNe) (eCall F_worth_at (aCons (eVar 0) (aCons (eVar 1) (aCons (eVar 3) aNil)))) (eOp (lift2 dMod) (eVar 4) (eVar 0)))) (eVar 3) [3, 4]) aNil)))
def F_misfits : SF := mkF 5 B_misfits
abbrev B_fitting_1 : SS :=
  (sAsg (eOp (lift2 dDiv) (eOp (lift2 dSub) (eCB (one fLen) (aCons (eVar 2) aNil)) (eVar 1)) (eC (.int 2))) (gNm 3))
abbrev B_fitting_2 : SS :=
  (sFor (iDat (eCall (F_groups_of 10) (aCons (eVar 2) (aCons (eVar 1) aNil)))) (gNm 4) (sSeq (sAsg (eCall F_through (aCons (eVar 0) (aCons (eVar 4) aNil))) (gNm 5))
    (sSeq (sAsg (eCall F_misfits (aCons (eVar 0) (aCons (eVar 5) (aCons (eVar 2) aNil)))) (gNm 6))
    (sIf (bVal (eOp (lift2 dLe) (eCB (one fLen) (aCons (eVar 6) aNil)) (eVar 3))) (sRet (eTup (aCons (eVar 5) (aCons (eVar 6) aNil)))) sNext))))
abbrev B_fitting_3 : SS :=
  (sRet (eC .none))
abbrev B_fitting : SS :=
  (sSeq B_fitting_1
    (sSeq B_fitting_2
    B_fitting_3))
def F_fitting : SF := mkF 7 B_fitting
abbrev B_xvalue_1 : SS :=
  (sAsg (eC (.int 0)) (gNm 3))
abbrev B_xvalue_2 : SS :=
  (sFor (iDat (eUn (lift1 dRev) (eVar 1))) (gNm 4) (sAsg (eOp (lift2 dMod) (eOp (lift2 dAdd) (eOp (lift2 dMul) (eVar 3) (eVar 2)) (eVar 4)) (eVar 0)) (gNm 3)))
abbrev B_xvalue_3 : SS :=
  (sRet (eVar 3))
abbrev B_xvalue : SS :=
  (sSeq B_xvalue_1
    (sSeq B_xvalue_2
    B_xvalue_3))
def F_xvalue : SF := mkF 5 B_xvalue
abbrev B_xrows_right_1 : SS :=
  (sAsg (eCall F_xprime (aCons (eVar 0) aNil)) (gNm 1))
abbrev B_xrows_right_2 : SS :=
  (sAsg (eCall F_xxs (aCons (eVar 0) (aCons (eVar 1) (aCons (eOp (lift2 dAdd) (eC (.int 2)) (eCall F_xnext (aCons (eVar 0) (aCons (eC (.int 6)) aNil)))) aNil)))) (gNm 2))
abbrev B_xrows_right_3 : SS :=
  (sAsg (eOp (lift2 dAdd) (eC (.int 1)) (eCall F_xnext (aCons (eVar 0) (aCons (eOp (lift2 dDiv) (eCB (one fLen) (aCons (eVar 2) aNil)) (eC (.int 2))) aNil)))) (gNm 3))
abbrev B_xrows_right_4 : SS :=
  (sAsg (eCall F_two_fitting (aCons (eVar 1) (aCons (eVar 2) (aCons (eVar 3) aNil)))) (gTp [4, 5, 6, 7]))
abbrev B_xrows_right_5 : SS :=
  (sAsg (eCall F_xone_more (aCons (eVar 0) (aCons (eVar 1) (aCons (eVar 2) aNil)))) (gNm 8))
abbrev B_xrows_right_6 : SS :=
  (sFor (iDat (eTup (aCons (eVar 5) (aCons (eVar 6) aNil)))) (gNm 9) (sSeq (sAsg (eCB (one fTuple) (aCons (eCB (one fSortK) (aCons (eOp (lift2 dAdd) (eZp .list (aCons (eVar 2) (aCons (eVar 7) aNil))) (eLst (aCons (eTup (aCons (eVar 8) (aCons (eCall F_xvalue (aCons (eVar 1) (aCons (eVar 9) (aCons (eVar 8) aNil)))) aNil))) aNil))) aNil)) aNil)) (gNm 10))
    (sSeq (sAsg (eCB (one fTuple) (aCons (eLc (iDat (eVar 10)) (gTp [12, 13]) (bVal (eOp (lift2 dNe) (eCall F_xvalue (aCons (eVar 1) (aCons (eVar 9) (aCons (eVar 12) aNil)))) (eVar 13))) (eVar 12) [12, 13]) aNil)) (gNm 11))
    (sIf (bVal (eOp (lift2 dNe) (eCB (one (lift1 dRepr)) (aCons (eCall F_fitting (aCons (eVar 1) (aCons (eCB (one fLen) (aCons (eVar 5) aNil)) (aCons (eVar 10) aNil)))) aNil)) (eCB (one (lift1 dRepr)) (aCons (eTup (aCons (eVar 9) (aCons (eVar 11) aNil))) aNil)))) (sRet (eC (.bool false))) sNext))))
abbrev B_xrows_right_7 : SS :=
  (sRet (eC (.bool true)))
abbrev B_xrows_right : SS :=
  (sSeq B_xrows_right_1
    (sSeq B_xrows_right_2
    (sSeq B_xrows_right_3
    (sSeq B_xrows_right_4
    (sSeq B_xrows_right_5
    (sSeq B_xrows_right_6
    B_xrows_right_7))))))
def F_xrows_right : SF := mkF 14 B_xrows_right
abbrev B_xshape_1 : SS :=
  (sAsg (eOp (lift2 dAdd) (eC (.int 1)) (eCall F_xnext (aCons (eVar 0) (aCons (eVar 1) aNil)))) (gNm 2))
abbrev B_xshape_2 : SS :=
  (sAsg (eOp (lift2 dAdd) (eC (.int 1)) (eCall F_xnext (aCons (eVar 0) (aCons (eVar 2) aNil)))) (gNm 3))
abbrev B_xshape_3 : SS :=
  (sRet (eTup (aCons (eCall F_xprime (aCons (eVar 0) aNil)) (aCons (eVar 3) (aCons (eVar 2) (aCons (eCall F_xnext (aCons (eVar 0) (aCons (eVar 3) aNil))) aNil))))))
abbrev B_xshape : SS :=
  (sSeq B_xshape_1
    (sSeq B_xshape_2
    B_xshape_3))
def F_xshape : SF := mkF 4 B_xshape
abbrev B_alike_on_1 : SS :=
  (sAsg (eVar 0) (gTp [2, 3, 4, 5]))
abbrev B_alike_on_2 : SS :=
  (sAsg (eLst (aCons (eC (.int 1)) aNil)) (gNm 6))
abbrev B_alike_on_3 : SS :=
  (sFor (iDat (eVar 1)) (gNm 7) (sAsg (eCall F_with_nought_at (aCons (eVar 2) (aCons (eVar 6) (aCons (eVar 7) aNil)))) (gNm 6)))
abbrev B_alike_on_4 : SS :=
  (sAsg (eSl fSl (eOp (lift2 dAdd) (eVar 6) (eFrz (eRepN (eNew (aCons (eC (.int 0)) aNil)) (eVar 4)))) oNone (oSome (eVar 4))) (gNm 8))
abbrev B_alike_on_5 : SS :=
  (sRet (eCB (one fTuple) (aCons (eLc (iDat (eVar 8)) (gNm 9) bYes (eCB (one fTuple) (aCons (eLc (iDat (eVar 8)) (gNm 10) bYes (eOp (lift2 dMod) (eOp (lift2 dMul) (eVar 9) (eVar 10)) (eVar 2)) [10]) aNil)) [9]) aNil)))
abbrev B_alike_on : SS :=
  (sSeq B_alike_on_1
    (sSeq B_alike_on_2
    (sSeq B_alike_on_3
    (sSeq B_alike_on_4
    B_alike_on_5))))
def F_alike_on : SF := mkF 11 B_alike_on
abbrev B_powers_of_1 : SS :=
  (sAsg (eNew aNil) (gNm 3))
abbrev B_powers_of_2 : SS :=
  (sAsg (eC (.int 1)) (gNm 4))
abbrev B_powers_of_3 : SS :=
  (sFrz 3 (sFor (iR1 (aCons (eVar 1) aNil)) (gNm 5) (sSeq (sApp (eVar 3) (eVar 4))
    (sAsg (eOp (lift2 dMod) (eOp (lift2 dMul) (eVar 4) (eVar 2)) (eVar 0)) (gNm 4)))))
abbrev B_powers_of_4 : SS :=
  (sRet (eCB (one fTuple) (aCons (eVar 3) aNil)))
abbrev B_powers_of : SS :=
  (sSeq B_powers_of_1
    (sSeq B_powers_of_2
    (sSeq B_powers_of_3
    B_powers_of_4)))
def F_powers_of : SF := mkF 6 B_powers_of
abbrev B_keeps_of_1 : SS :=
  (sAsg (eVar 0) (gTp [3, 4, 5, 6]))
abbrev B_keeps_of_2 : SS :=
  (sAsg (eFrz (eRepN (eNew (aCons (eC (.int 0)) aNil)) (eVar 5))) (gNm 7))
abbrev B_keeps_of_3 : SS :=
  (sFor (iZp (aCons (eVar 1) (aCons (eCall F_powers_of (aCons (eVar 3) (aCons (eVar 5) (aCons (eVar 2) aNil)))) aNil))) (gTp [8, 9]) (sAsg (eCall F_with_multiple (aCons (eVar 3) (aCons (eVar 7) (aCons (eVar 8) (aCons (eVar 9) aNil))))) (gNm 7)))
abbrev B_keeps_of_4 : SS :=
  (sRet (eCB (one fTuple) (aCons (eVar 7) aNil)))
abbrev B_keeps_of : SS :=
  (sSeq B_keeps_of_1
    (sSeq B_keeps_of_2
    (sSeq B_keeps_of_3
    B_keeps_of_4)))
def F_keeps_of : SF := mkF 10 B_keeps_of
abbrev B_two_read_1 : SS :=
  (sAsg (eVar 0) (gTp [3, 4, 5, 6]))
abbrev B_two_read_2 : SS :=
  (sAsg (eOp (lift2 dMul) (eTup (aCons (eOp (lift2 dMul) (eTup (aCons (eC (.int 0)) aNil)) (eVar 5)) aNil)) (eVar 5)) (gNm 7))
abbrev B_two_read_3 : SS :=
  (sAsg (eCall F_alike_on (aCons (eVar 0) (aCons (eSl fSl (eVar 1) oNone (oSome (eOp (lift2 dSub) (eVar 4) (eC (.int 1))))) aNil))) (gNm 8))
abbrev B_two_read_4 : SS :=
  (sAsg (eOp (lift2 dAdd) (eLc (iDat (eSl fSl (eVar 1) oNone (oSome (eOp (lift2 dSub) (eCB (one fLen) (aCons (eVar 1) aNil)) (eVar 2))))) (gNm 10) bYes (eCall F_keeps_of (aCons (eVar 0) (aCons (eVar 7) (aCons (eVar 10) aNil)))) [10]) (eLc (iDat (eSl fSl (eVar 1) (oSome (eOp (lift2 dSub) (eCB (one fLen) (aCons (eVar 1) aNil)) (eVar 2))) oNone)) (gNm 10) bYes (eCall F_keeps_of (aCons (eVar 0) (aCons (eVar 8) (aCons (eVar 10) aNil)))) [10])) (gNm 9))
abbrev B_two_read_5 : SS :=
  (sRet (eTup (aCons (eC (.str (Str.ofString "two"))) (aCons (eVar 7) (aCons (eVar 8) (aCons (eCB (one fTuple) (aCons (eVar 9) aNil)) aNil))))))
abbrev B_two_read : SS :=
  (sSeq B_two_read_1
    (sSeq B_two_read_2
    (sSeq B_two_read_3
    (sSeq B_two_read_4
    B_two_read_5))))
def F_two_read : SF := mkF 11 B_two_read
abbrev B_column_through_1 : SS :=
  (sAsg (eOp (lift2 dAdd) (eOp (lift2 dMul) (eTup (aCons (eC (.int 0)) aNil)) (eVar 1)) (eVar 4)) (gNm 5))
abbrev B_column_through_2 : SS :=
  (sAsg (eCall F_through (aCons (eVar 0) (aCons (eLc (iDat (eVar 3)) (gTp [7, 8]) bYes (eTup (aCons (eVar 7) (aCons (eOp (lift2 dMod) (eOp (lift2 dSub) (eOp fIx (eVar 8) (eVar 2)) (eCall F_worth_at (aCons (eVar 0) (aCons (eVar 5) (aCons (eVar 7) aNil))))) (eVar 0)) aNil))) [7, 8]) aNil))) (gNm 6))
abbrev B_column_through_3 : SS :=
  (sRet (eOp (lift2 dAdd) (eVar 6) (eVar 4)))
abbrev B_column_through : SS :=
  (sSeq B_column_through_1
    (sSeq B_column_through_2
    B_column_through_3))
def F_column_through : SF := mkF 9 B_column_through
abbrev B_is_number : SS :=
  (sRet (eAnd (eUn (fIsi "int") (eVar 0)) (eNot (eUn (fIsi "bool") (eVar 0)))))
def F_is_number : SF := mkF 1 B_is_number
abbrev B_is_rest : SS :=
  (sRet (eAnd (eCall F_is_number (aCons (eVar 1) aNil)) (eChain (lift2 dLe) (lift2 dLt) (eC (.int 0)) (eVar 1) (eVar 0))))
def F_is_rest : SF := mkF 2 B_is_rest
abbrev B_is_row_1 : SS :=
  (sIf (bOr (bNot (bVal (eUn (fIsi "tuple") (eVar 2)))) (bVal (eOp (lift2 dNe) (eCB (one fLen) (aCons (eVar 2) aNil)) (eVar 1)))) (sRet (eC (.bool false))) sNext)
abbrev B_is_row_2 : SS :=
  (sRet (eCB (one (lift1 dAll)) (aCons (eLc (iDat (eVar 2)) (gNm 3) bYes (eCall F_is_rest (aCons (eVar 0) (aCons (eVar 3) aNil))) [3]) aNil)))
abbrev B_is_row : SS :=
  (sSeq B_is_row_1
    B_is_row_2)
def F_is_row : SF := mkF 4 B_is_row
abbrev B_are_rows : SS :=
  (sRet (eAnd (eUn (fIsi "tuple") (eVar 3)) (eAnd (eOp (lift2 dEq) (eCB (one fLen) (aCons (eVar 3) aNil)) (eVar 2)) (eCB (one (lift1 dAll)) (aCons (eLc (iDat (eVar 3)) (gNm 4) bYes (eCall F_is_row (aCons (eVar 0) (aCons (eVar 1) (aCons (eVar 4) aNil)))) [4]) aNil)))))
def F_are_rows : SF := mkF 5 B_are_rows
abbrev B_is_table_1 : SS :=
  (sAsg (eVar 0) (gTp [2, 3, 4, 5]))
abbrev B_is_table_2 : SS :=
  (sIf (bNot (bVal (eCall F_are_rows (aCons (eVar 2) (aCons (eVar 4) (aCons (eVar 4) (aCons (eVar 1) aNil))))))) (sRet (eC (.bool false))) sNext)
abbrev B_is_table_3 : SS :=
  (sIf (bVal (eCB (one (lift1 dAny)) (aCons (eLc2 (iR2 (aCons (eVar 3) (aCons (eVar 4) aNil))) (gNm 6) bYes (iR2 (aCons (eVar 3) (aCons (eVar 4) aNil))) (gNm 7) bYes (eOp fIx (eOp fIx (eVar 1) (eVar 6)) (eVar 7)) [6, 7] [7]) aNil))) (sRet (eC (.bool false))) sNext)
abbrev B_is_table_4 : SS :=
  (sRet (eCB (one (lift1 dAll)) (aCons (eLc2 (iR1 (aCons (eVar 4) aNil)) (gNm 6) bYes (iR1 (aCons (eVar 6) aNil)) (gNm 7) bYes (eOp (lift2 dEq) (eOp fIx (eOp fIx (eVar 1) (eVar 6)) (eVar 7)) (eOp fIx (eOp fIx (eVar 1) (eVar 7)) (eVar 6))) [6, 7] [7]) aNil)))
abbrev B_is_table : SS :=
  (sSeq B_is_table_1
    (sSeq B_is_table_2
    (sSeq B_is_table_3
    B_is_table_4)))
def F_is_table : SF := mkF 8 B_is_table
abbrev B_read_back_1 : SS :=
  (sAsg (eVar 0) (gTp [2, 3, 4, 5]))
abbrev B_read_back_2 : SS :=
  (sIf (bVal (eOp (lift2 dNe) (eCB (one fLen) (aCons (eVar 1) aNil)) (eVar 3))) (sRet (eC .none)) sNext)
abbrev B_read_back_3 : SS :=
  (sAsg (eLcN (iR1 (aCons (eVar 4) aNil)) (gNm 7) bYes (eTup aNil) [7]) (gNm 6))
abbrev B_read_back_4 : SS :=
  (sFrz 6 (sFor (iRr1 (eVar 4)) (gNm 7) (sSeq (sAsg (eIf (bVal (eOp (lift2 dLt) (eVar 7) (eVar 3))) (eCB (one fTuple) (aCons (eLc (iR2 (aCons (eVar 3) (aCons (eVar 4) aNil))) (gNm 10) bYes (eOp fIx (eOp fIx (eVar 6) (eVar 10)) (eVar 7)) [10]) aNil)) (eOp (lift2 dMul) (eTup (aCons (eC (.int 0)) aNil)) (eOp (lift2 dSub) (eVar 4) (eVar 3)))) (gNm 8))
    (sAsg (eCall F_column_through (aCons (eVar 2) (aCons (eVar 3) (aCons (eVar 7) (aCons (eVar 1) (aCons (eVar 8) aNil)))))) (gStore (eVar 6) (eVar 7))))))
abbrev B_read_back_5 : SS :=
  (sAsg (eCB (one fTuple) (aCons (eVar 6) aNil)) (gNm 9))
abbrev B_read_back_6 : SS :=
  (sRet (eIf (bVal (eCall F_is_table (aCons (eVar 0) (aCons (eVar 9) aNil)))) (eVar 9) (eC .none)))
abbrev B_read_back : SS :=
  (sSeq B_read_back_1
    (sSeq B_read_back_2
    (sSeq B_read_back_3
    (sSeq B_read_back_4
    (sSeq B_read_back_5
    B_read_back_6)))))
def F_read_back : SF := mkF 11 B_read_back
abbrev B_keeping_others : SS :=
  (sRet (eCB (one fTuple) (aCons (eLc (iDat (eVar 2)) (gTp [3, 4]) (bVal (eOp (lift2 dNe) (eCall F_keeps_of (aCons (eVar 0) (aCons (eVar 1) (aCons (eVar 3) aNil)))) (eCB (one fTuple) (aCons (eVar 4) aNil)))) (eVar 3) [3, 4]) aNil)))
def F_keeping_others : SF := mkF 5 B_keeping_others
abbrev B_read_right_1 : SS :=
  (sAsg (eOp fIx (eVar 0) (eC (.int 1))) (gNm 2))
abbrev B_read_right_2 : SS :=
  (sAsg (eOp (lift2 dDiv) (eOp (lift2 dSub) (eCB (one fLen) (aCons (eVar 1) aNil)) (eVar 2)) (eC (.int 2))) (gNm 3))
abbrev B_read_right_3 : SS :=
  (sFor (iDat (eCall (F_groups_of 10) (aCons (eVar 1) (aCons (eVar 2) aNil)))) (gNm 4) (sSeq (sAsg (eCall F_read_back (aCons (eVar 0) (aCons (eVar 4) aNil))) (gNm 5))
    (sIf (bVal (eOp (lift2 dNotN) (eVar 5) (eC .none))) (sSeq (sAsg (eCall F_keeping_others (aCons (eVar 0) (aCons (eVar 5) (aCons (eVar 1) aNil)))) (gNm 6))
    (sIf (bVal (eOp (lift2 dLe) (eCB (one fLen) (aCons (eVar 6) aNil)) (eVar 3))) (sRet (eTup (aCons (eVar 5) (aCons (eVar 6) aNil)))) sNext)) sNext)))
abbrev B_read_right_4 : SS :=
  (sRet (eC .none))
abbrev B_read_right : SS :=
  (sSeq B_read_right_1
    (sSeq B_read_right_2
    (sSeq B_read_right_3
    B_read_right_4)))
def F_read_right : SF := mkF 7 B_read_right
abbrev B_xkept_1 : SS :=
  (sAsg (eNew aNil) (gNm 3))
abbrev B_xkept_2 : SS :=
  (sFrz 3 (sFor (iR1 (aCons (eCB (one fLen) (aCons (eVar 1) aNil)) aNil)) (gNm 4) (sApp (eVar 3) (eCall F_xvalue (aCons (eVar 0) (aCons (eLc (iDat (eVar 1)) (gNm 5) bYes (eOp fIx (eVar 5) (eVar 4)) [5]) (aCons (eVar 2) aNil)))))))
abbrev B_xkept_3 : SS :=
  (sRet (eCB (one fTuple) (aCons (eVar 3) aNil)))
abbrev B_xkept : SS :=
  (sSeq B_xkept_1
    (sSeq B_xkept_2
    B_xkept_3))
def F_xkept : SF := mkF 6 B_xkept
abbrev B_xtables_right_1 : SS :=
  (sAsg (eCall F_xshape (aCons (eVar 0) (aCons (eC (.int 5)) aNil))) (gNm 1))
abbrev B_xtables_right_2 : SS :=
  (sAsg (eVar 1) (gTp [2, 3, 4, 5]))
abbrev B_xtables_right_3 : SS :=
  (sAsg (eOp (lift2 dAdd) (eC (.int 1)) (eCall F_xnext (aCons (eVar 0) (aCons (eOp (lift2 dDiv) (eOp (lift2 dSub) (eC (.int 8)) (eVar 3)) (eC (.int 2))) aNil)))) (gNm 6))
abbrev B_xtables_right_4 : SS :=
  (sAsg (eCall F_xxs (aCons (eVar 0) (aCons (eVar 2) (aCons (eOp (lift2 dSub) (eOp (lift2 dAdd) (eVar 3) (eOp (lift2 dMul) (eC (.int 2)) (eVar 6))) (eC (.int 1))) aNil)))) (gNm 7))
abbrev B_xtables_right_5 : SS :=
  (sAsg (eCall F_two_read (aCons (eVar 1) (aCons (eVar 7) (aCons (eVar 6) aNil)))) (gTp [8, 9, 10, 11]))
abbrev B_xtables_right_6 : SS :=
  (sAsg (eCall F_xone_more (aCons (eVar 0) (aCons (eVar 2) (aCons (eVar 7) aNil)))) (gNm 12))
abbrev B_xtables_right_7 : SS :=
  (sFor (iDat (eTup (aCons (eVar 9) (aCons (eVar 10) aNil)))) (gNm 13) (sSeq (sAsg (eCB (one fTuple) (aCons (eCB (one fSortK) (aCons (eOp (lift2 dAdd) (eZp .list (aCons (eVar 7) (aCons (eVar 11) aNil))) (eLst (aCons (eTup (aCons (eVar 12) (aCons (eCall F_xkept (aCons (eVar 2) (aCons (eVar 13) (aCons (eVar 12) aNil)))) aNil))) aNil))) aNil)) aNil)) (gNm 14))
    (sSeq (sAsg (eCB (one fTuple) (aCons (eLc (iDat (eVar 14)) (gTp [16, 17]) (bVal (eOp (lift2 dNe) (eCall F_xkept (aCons (eVar 2) (aCons (eVar 13) (aCons (eVar 16) aNil)))) (eVar 17))) (eVar 16) [16, 17]) aNil)) (gNm 15))
    (sIf (bVal (eOp (lift2 dNe) (eCB (one (lift1 dRepr)) (aCons (eCall F_read_right (aCons (eVar 1) (aCons (eVar 14) aNil))) aNil)) (eCB (one (lift1 dRepr)) (aCons (eTup (aCons (eVar 13) (aCons (eVar 15) aNil))) aNil)))) (sRet (eC (.bool false))) sNext))))
abbrev B_xtables_right_8 : SS :=
  (sRet (eC (.bool true)))
abbrev B_xtables_right : SS :=
  (sSeq B_xtables_right_1
    (sSeq B_xtables_right_2
    (sSeq B_xtables_right_3
    (sSeq B_xtables_right_4
    (sSeq B_xtables_right_5
    (sSeq B_xtables_right_6
    (sSeq B_xtables_right_7
    B_xtables_right_8)))))))
def F_xtables_right : SF := mkF 18 B_xtables_right
abbrev B_law_1 : SS :=
  (sAsg (eCall F_xdraws (aCons (eVar 0) aNil)) (gNm 1))
abbrev B_law_2 : SS :=
  (sFor (iR1 (aCons (eC (.int 2)) aNil)) (gNm 2) (sIf (bOr (bNot (bVal (eCall F_xrows_right (aCons (eVar 1) aNil)))) (bNot (bVal (eCall F_xtables_right (aCons (eVar 1) aNil))))) (sRet (eC (.bool false))) sNext))
abbrev B_law_3 : SS :=
  (sRet (eC (.bool true)))
abbrev B_law : SS :=
  (sSeq B_law_1
    (sSeq B_law_2
    B_law_3))
def F_law : SF := mkF 3 B_law
/-! ### what the top has left -/
structure Txt (K : PySem.W.Frag) (mg : Str → Option Value) : Type where
  a_xdraws : Addr
  fd_xdraws : FuncData
  u_xdraws : Fun K "_law_draws" "_law_draws" s_xdraws a_xdraws fd_xdraws
  g_xdraws : mg "_law_draws" = some (.ref a_xdraws)
  b_xdraws : Binds K fd_xdraws ["_law_script"] []
  a_xnext : Addr
  fd_xnext : FuncData
  u_xnext : Fun K "_law_next" "_law_next" s_xnext a_xnext fd_xnext
  g_xnext : mg "_law_next" = some (.ref a_xnext)
  b_xnext : Binds K fd_xnext ["_law_drawn", "_law_many"] []
  a_xprime : Addr
  fd_xprime : FuncData
  u_xprime : Fun K "_law_prime" "_law_prime" s_xprime a_xprime fd_xprime
  g_xprime : mg "_law_prime" = some (.ref a_xprime)
  b_xprime : Binds K fd_xprime ["_law_drawn"] []
  a_xxs : Addr
  fd_xxs : FuncData
  u_xxs : Fun K "_law_xs" "_law_xs" s_xxs a_xxs fd_xxs
  g_xxs : mg "_law_xs" = some (.ref a_xxs)
  b_xxs : Binds K fd_xxs ["_law_drawn", "_law_p", "_law_many"] []
  a_fitting_many : Addr
  fd_fitting_many : FuncData
  u_fitting_many : Fun K "fitting_many" "fitting_many" s_fitting_many a_fitting_many fd_fitting_many
  g_fitting_many : mg "fitting_many" = some (.ref a_fitting_many)
  b_fitting_many : Binds K fd_fitting_many ["xs", "b"] []
  a_with_multiple : Addr
  fd_with_multiple : FuncData
  u_with_multiple : Fun K "with_multiple" "with_multiple" s_with_multiple a_with_multiple fd_with_multiple
  g_with_multiple : mg "with_multiple" = some (.ref a_with_multiple)
  b_with_multiple : Binds K fd_with_multiple ["p", "row", "other", "factor"] []
  a_with_nought_at : Addr
  fd_with_nought_at : FuncData
  u_with_nought_at : Fun K "with_nought_at" "with_nought_at" s_with_nought_at a_with_nought_at fd_with_nought_at
  g_with_nought_at : mg "with_nought_at" = some (.ref a_with_nought_at)
  b_with_nought_at : Binds K fd_with_nought_at ["p", "row", "x"] []
  a_worth_at : Addr
  fd_worth_at : FuncData
  u_worth_at : Fun K "worth_at" "worth_at" s_worth_at a_worth_at fd_worth_at
  g_worth_at : mg "worth_at" = some (.ref a_worth_at)
  b_worth_at : Binds K fd_worth_at ["p", "row", "x"] []
  a_two_fitting : Addr
  fd_two_fitting : FuncData
  u_two_fitting : Fun K "two_fitting" "two_fitting" s_two_fitting a_two_fitting fd_two_fitting
  g_two_fitting : mg "two_fitting" = some (.ref a_two_fitting)
  b_two_fitting : Binds K fd_two_fitting ["p", "xs", "b"] []
  a_xone_more : Addr
  fd_xone_more : FuncData
  u_xone_more : Fun K "_law_one_more" "_law_one_more" s_xone_more a_xone_more fd_xone_more
  g_xone_more : mg "_law_one_more" = some (.ref a_xone_more)
  b_xone_more : Binds K fd_xone_more ["_law_drawn", "_law_p", "_law_xs_here"] []
  a_groups_of : Addr
  fd_groups_of : FuncData
  u_groups_of : Fun K "groups_of" "groups_of" s_groups_of a_groups_of fd_groups_of
  g_groups_of : mg "groups_of" = some (.ref a_groups_of)
  b_groups_of : Binds K fd_groups_of ["things", "many"] []
  a_contrary : Addr
  fd_contrary : FuncData
  u_contrary : Fun K "contrary" "contrary" s_contrary a_contrary fd_contrary
  g_contrary : mg "contrary" = some (.ref a_contrary)
  b_contrary : Binds K fd_contrary ["p", "a"] []
  a_through : Addr
  fd_through : FuncData
  u_through : Fun K "through" "through" s_through a_through fd_through
  g_through : mg "through" = some (.ref a_through)
  b_through : Binds K fd_through ["p", "pairs"] []
  a_misfits : Addr
  fd_misfits : FuncData
  u_misfits : Fun K "misfits" "misfits" s_misfits a_misfits fd_misfits
  g_misfits : mg "misfits" = some (.ref a_misfits)
  b_misfits : Binds K fd_misfits ["p", "row", "pairs"] []
  a_fitting : Addr
  fd_fitting : FuncData
  u_fitting : Fun K "fitting" "fitting" s_fitting a_fitting fd_fitting
  g_fitting : mg "fitting" = some (.ref a_fitting)
  b_fitting : Binds K fd_fitting ["p", "many", "pairs"] []
  a_xvalue : Addr
  fd_xvalue : FuncData
  u_xvalue : Fun K "_law_value" "_law_value" s_xvalue a_xvalue fd_xvalue
  g_xvalue : mg "_law_value" = some (.ref a_xvalue)
  b_xvalue : Binds K fd_xvalue ["_law_p", "_law_row", "_law_x"] []
  a_xrows_right : Addr
  fd_xrows_right : FuncData
  u_xrows_right : Fun K "_law_rows_right" "_law_rows_right" s_xrows_right a_xrows_right fd_xrows_right
  g_xrows_right : mg "_law_rows_right" = some (.ref a_xrows_right)
  b_xrows_right : Binds K fd_xrows_right ["_law_drawn"] []
  a_xshape : Addr
  fd_xshape : FuncData
  u_xshape : Fun K "_law_shape" "_law_shape" s_xshape a_xshape fd_xshape
  g_xshape : mg "_law_shape" = some (.ref a_xshape)
  b_xshape : Binds K fd_xshape ["_law_drawn", "_law_most"] []
  a_alike_on : Addr
  fd_alike_on : FuncData
  u_alike_on : Fun K "alike_on" "alike_on" s_alike_on a_alike_on fd_alike_on
  g_alike_on : mg "alike_on" = some (.ref a_alike_on)
  b_alike_on : Binds K fd_alike_on ["shape", "xs"] []
  a_powers_of : Addr
  fd_powers_of : FuncData
  u_powers_of : Fun K "powers_of" "powers_of" s_powers_of a_powers_of fd_powers_of
  g_powers_of : mg "powers_of" = some (.ref a_powers_of)
  b_powers_of : Binds K fd_powers_of ["p", "many", "x"] []
  a_keeps_of : Addr
  fd_keeps_of : FuncData
  u_keeps_of : Fun K "keeps_of" "keeps_of" s_keeps_of a_keeps_of fd_keeps_of
  g_keeps_of : mg "keeps_of" = some (.ref a_keeps_of)
  b_keeps_of : Binds K fd_keeps_of ["shape", "table", "x"] []
  a_two_read : Addr
  fd_two_read : FuncData
  u_two_read : Fun K "two_read" "two_read" s_two_read a_two_read fd_two_read
  g_two_read : mg "two_read" = some (.ref a_two_read)
  b_two_read : Binds K fd_two_read ["shape", "xs", "b"] []
  a_column_through : Addr
  fd_column_through : FuncData
  u_column_through : Fun K "column_through" "column_through" s_column_through a_column_through fd_column_through
  g_column_through : mg "column_through" = some (.ref a_column_through)
  b_column_through : Binds K fd_column_through ["p", "k", "column", "pairs", "lower"] []
  a_is_number : Addr
  fd_is_number : FuncData
  u_is_number : Fun K "is_number" "is_number" s_is_number a_is_number fd_is_number
  g_is_number : mg "is_number" = some (.ref a_is_number)
  b_is_number : Binds K fd_is_number ["thing"] []
  a_is_rest : Addr
  fd_is_rest : FuncData
  u_is_rest : Fun K "is_rest" "is_rest" s_is_rest a_is_rest fd_is_rest
  g_is_rest : mg "is_rest" = some (.ref a_is_rest)
  b_is_rest : Binds K fd_is_rest ["p", "thing"] []
  a_is_row : Addr
  fd_is_row : FuncData
  u_is_row : Fun K "is_row" "is_row" s_is_row a_is_row fd_is_row
  g_is_row : mg "is_row" = some (.ref a_is_row)
  b_is_row : Binds K fd_is_row ["p", "many", "thing"] []
  a_are_rows : Addr
  fd_are_rows : FuncData
  u_are_rows : Fun K "are_rows" "are_rows" s_are_rows a_are_rows fd_are_rows
  g_are_rows : mg "are_rows" = some (.ref a_are_rows)
  b_are_rows : Binds K fd_are_rows ["p", "n", "many", "thing"] []
  a_is_table : Addr
  fd_is_table : FuncData
  u_is_table : Fun K "is_table" "is_table" s_is_table a_is_table fd_is_table
  g_is_table : mg "is_table" = some (.ref a_is_table)
  b_is_table : Binds K fd_is_table ["shape", "thing"] []
  a_read_back : Addr
  fd_read_back : FuncData
  u_read_back : Fun K "read_back" "read_back" s_read_back a_read_back fd_read_back
  g_read_back : mg "read_back" = some (.ref a_read_back)
  b_read_back : Binds K fd_read_back ["shape", "pairs"] []
  a_keeping_others : Addr
  fd_keeping_others : FuncData
  u_keeping_others : Fun K "keeping_others" "keeping_others" s_keeping_others a_keeping_others fd_keeping_others
  g_keeping_others : mg "keeping_others" = some (.ref a_keeping_others)
  b_keeping_others : Binds K fd_keeping_others ["shape", "table", "pairs"] []
  a_read_right : Addr
  fd_read_right : FuncData
  u_read_right : Fun K "read_right" "read_right" s_read_right a_read_right fd_read_right
  g_read_right : mg "read_right" = some (.ref a_read_right)
  b_read_right : Binds K fd_read_right ["shape", "pairs"] []
  a_xkept : Addr
  fd_xkept : FuncData
  u_xkept : Fun K "_law_kept" "_law_kept" s_xkept a_xkept fd_xkept
  g_xkept : mg "_law_kept" = some (.ref a_xkept)
  b_xkept : Binds K fd_xkept ["_law_p", "_law_rows", "_law_x"] []
  a_xtables_right : Addr
  fd_xtables_right : FuncData
  u_xtables_right : Fun K "_law_tables_right" "_law_tables_right" s_xtables_right a_xtables_right fd_xtables_right
  g_xtables_right : mg "_law_tables_right" = some (.ref a_xtables_right)
  b_xtables_right : Binds K fd_xtables_right ["_law_drawn"] []
  a_law : Addr
  fd_law : FuncData
  u_law : Fun K "law" "law" s_law a_law fd_law
  g_law : mg "law" = some (.ref a_law)
  b_law : Binds K fd_law ["_law_script"] []
  m_all : mg "all" = none
  m_any : mg "any" = none
  m_bool : mg "bool" = none
  m_int : mg "int" = none
  m_isinstance : mg "isinstance" = none
  m_len : mg "len" = none
  m_list : mg "list" = none
  m_range : mg "range" = none
  m_repr : mg "repr" = none
  m_reversed : mg "reversed" = none
  m_sorted : mg "sorted" = none
  m_tuple : mg "tuple" = none
  m_zip : mg "zip" = none
section
variable {P : Program} {w : World} {K : PySem.W.Frag} {mg : Str → Option Value} {base : Heap}
theorem ok_xdraws (T : Txt K mg) : FnG P w K mg base 1 T.a_xdraws T.fd_xdraws ["_law_script"] (spF K 1 F_xdraws) :=
  fn_okG (k := 0) (body := B_xdraws) (N := N_xdraws)
  (et_seq (et_asg (ev_op (ev_cb (ea_cons (ev_sl ev_var ev_oNone (ev_oSome ev_int) ss_sl) ea_nil) (cs_one us_list)) (ev_frz (ev_repN (ev_new (ea_cons ev_int ea_nil)) (ev_cb (ea_cons (ev_op (ev_cb (ea_cons ev_var ea_nil) (cs_one us_len)) ev_int os_eq) ea_nil) (cs_one us_int)))) os_add) eg_name)
    (et_ret (ev_new (ea_cons ev_var (ea_cons ev_int (ea_cons (ev_lcN (ei_sq ev_var) eg_name (gw_name (by decide)) eb_yes (ev_op ev_var (ev_cb (ea_cons (ev_op ev_var (ev_op ev_int ev_int os_pow) os_ge) ea_nil) (cs_one us_int)) os_mul)) ea_nil))))))
  T.u_xdraws sc_xdraws (fun cd A out s H hr hgu =>
  (pss_cons (ps_set (i := 1) sc_xdraws.nd rfl (Or.inl rfl) (pe_op op_addA (pe_callTy call_list1 rfl T.m_list (by decide +kernel) (pa_cons (pe_slice sl_seq (pv 0) po_none (po_some pe_int)) pa_nil)) (pe_op op_rep (pe_lst (pa_cons pe_int pa_nil)) (pe_callTy call_int1' rfl T.m_int (by decide +kernel) (pa_cons (pe_cmpR (op_eqA (room64 hr)) (pe_callB call_len1 rfl T.m_len (by decide +kernel) (pa_cons (pv 0) pa_nil)) pe_int rfl) pa_nil)))))
    (pss_one (ps_ret (pe_lst (pa_cons (pv 1) (pa_cons pe_int (pa_cons (pe_lc (own := [("_law_cell", 2)]) rfl sc_xdraws.nd (pi_sq (pv 1)) (blkOk_by (N := N_xdraws) (sc := defScope s_xdraws) (by decide +kernel)) (fun _ _ _ _ _ => (pg_name (i := 2) sc_xdraws.nd rfl (Or.inl rfl))) (fun _ _ _ _ _ => pts_nil) (fun _ _ _ _ _ => (pe_op op_mulA (pv 2) (pe_callTy call_int1' rfl T.m_int (by decide +kernel) (pa_cons (pe_cmpR op_ge (pv 2) (pe_op op_pow pe_int pe_int) rfl) pa_nil))))) pa_nil))))))))
theorem ok_xnext (T : Txt K mg) : FnG P w K mg base 1 T.a_xnext T.fd_xnext ["_law_drawn", "_law_many"] (spF K 2 F_xnext) :=
  fn_okG (k := 0) (body := B_xnext) (N := N_xnext)
  (et_seq (et_asg ev_var (eg_unl (is := [2, 3, 4]) rfl))
    (et_seq (et_asg (ev_op ev_var (ev_cb (ea_cons ev_var ea_nil) (cs_one us_len)) os_mod) eg_name)
    (et_seq (et_asg (ev_op ev_var ev_int os_add) (eg_store ev_var ev_int))
    (et_seq (et_if (eb_test (ev_op (ev_op ev_var ev_var os_ix) ev_int os_gt)) (et_seq (et_asg (ev_op (ev_op ev_var ev_var os_ix) ev_var os_mod) eg_name)
    (et_seq (et_asg (ev_op (ev_op ev_var ev_var os_ix) ev_var os_div) (eg_store ev_var ev_var))
    (et_ret ev_var))) et_next)
    (et_seq (et_asg (ev_op (ev_op (ev_op (ev_op (ev_op (ev_op ev_var ev_var os_ix) ev_int os_mod) (ev_op ev_int ev_var os_mul) os_add) ev_int os_add) ev_int os_pow) ev_int os_mod) eg_name)
    (et_seq (et_asg (ev_op (ev_op (ev_op (ev_op ev_var (ev_op (ev_op ev_int ev_var os_mul) ev_var os_mul) os_add) ev_int os_add) ev_int os_pow) ev_int os_mod) eg_name)
    (et_ret (ev_op (ev_op (ev_op (ev_op ev_var ev_int os_mul) ev_var os_add) ev_int os_mod) ev_var os_mod))))))))
  T.u_xnext sc_xnext (fun cd A out s H hr hgu =>
  (pss_cons (ps_asg (pv 0) (pg_unl rfl (pgs_cons (pg_name (i := 2) sc_xnext.nd rfl (Or.inl rfl)) (pgs_cons (pg_name (i := 3) sc_xnext.nd rfl (Or.inl rfl)) (pgs_cons (pg_name (i := 4) sc_xnext.nd rfl (Or.inl rfl)) pgs_nil)))))
    (pss_cons (ps_set (i := 5) sc_xnext.nd rfl (Or.inl rfl) (pe_op op_mod (pv 3) (pe_callB call_len1 rfl T.m_len (by decide +kernel) (pa_cons (pv 2) pa_nil))))
    (pss_cons (ps_asg (pe_op op_addA (pv 3) pe_int) (pg_sub (pv 0) pe_int set_list))
    (pss_cons (ps_if (pt_cmpR op_gt (pe_ix ix_seq (pv 4) (pv 5) (fun _ _ => rfl)) pe_int rfl) (pss_cons (ps_set (i := 6) sc_xnext.nd rfl (Or.inl rfl) (pe_op op_mod (pe_ix ix_seq (pv 4) (pv 5) (fun _ _ => rfl)) (pv 1)))
    (pss_cons (ps_asg (pe_op op_fdivW (pe_ix ix_seq (pv 4) (pv 5) (fun _ _ => rfl)) (pv 1)) (pg_sub (pv 4) (pv 5) set_list))
    (pss_one (ps_ret (pv 6))))) pss_nil)
    (pss_cons (ps_set (i := 7) sc_xnext.nd rfl (Or.inl rfl) (pe_op op_mod (pe_op op_pow (pe_op op_addA (pe_op op_addA (pe_op op_mod (pe_ix ix_seq (pv 2) (pv 5) (fun _ _ => rfl)) pe_int) (pe_op op_mulA pe_int (pv 3))) pe_int) pe_int) pe_int))
    (pss_cons (ps_set (i := 8) sc_xnext.nd rfl (Or.inl rfl) (pe_op op_mod (pe_op op_pow (pe_op op_addA (pe_op op_addA (pv 7) (pe_op op_mulA (pe_op op_mulA pe_int (pv 3)) (pv 3))) pe_int) pe_int) pe_int))
    (pss_one (ps_ret (pe_op op_mod (pe_op op_mod (pe_op op_addA (pe_op op_mulA (pv 8) pe_int) (pv 7)) pe_int) (pv 1)))))))))))
theorem ok_xprime (T : Txt K mg) : FnG P w K mg base 2 T.a_xprime T.fd_xprime ["_law_drawn"] (spF K 1 F_xprime) :=
  fn_okG (k := 1) (body := B_xprime) (N := N_xprime)
  (et_ret (ev_op (ev_lst (ea_cons ev_int (ea_cons ev_int (ea_cons ev_int (ea_cons ev_int (ea_cons ev_int (ea_cons ev_int ea_nil))))))) (ev_call (ea_cons ev_var (ea_cons ev_int ea_nil)) (na_cons (na_cons na_nil))) os_ix))
  T.u_xprime sc_xprime (fun cd A out s H hr hgu =>
  (pss_one (ps_ret (pe_ix ix_seq (pe_lst (pa_cons pe_int (pa_cons pe_int (pa_cons pe_int (pa_cons pe_int (pa_cons pe_int (pa_cons pe_int pa_nil))))))) (pe_callG (ok_xnext T) (hr.mono (by decide)) hgu rfl T.g_xnext T.u_xnext.kp T.b_xnext (pa_cons (pv 0) (pa_cons pe_int pa_nil))) (fun _ _ => rfl)))))
theorem ok_xxs (T : Txt K mg) : FnG P w K mg base 2 T.a_xxs T.fd_xxs ["_law_drawn", "_law_p", "_law_many"] (spF K 3 F_xxs) :=
  fn_okG (k := 1) (body := B_xxs) (N := N_xxs)
  (et_seq (et_asg (ev_new ea_nil) eg_name)
    (et_seq (et_frz (et_for (ei_r1 (ea_cons ev_var ea_nil)) eg_name (et_seq (et_asg (ev_op (ev_lst (ea_cons ev_int (ea_cons (ev_op ev_var ev_int os_sub) (ea_cons (ev_call (ea_cons ev_var (ea_cons ev_var ea_nil)) (na_cons (na_cons na_nil))) (ea_cons (ev_call (ea_cons ev_var (ea_cons ev_var ea_nil)) (na_cons (na_cons na_nil))) ea_nil))))) (ev_call (ea_cons ev_var (ea_cons ev_int ea_nil)) (na_cons (na_cons na_nil))) os_ix) eg_name)
    (et_seq (et_while (eb_test (ev_op ev_var ev_var os_in)) (et_asg (ev_op (ev_op ev_var ev_int os_add) ev_var os_mod) eg_name))
    (et_app ev_var ev_var)))))
    (et_ret (ev_cb (ea_cons (ev_cb (ea_cons ev_var ea_nil) (cs_one us_sorted)) ea_nil) (cs_one us_tuple)))))
  T.u_xxs sc_xxs (fun cd A out s H hr hgu =>
  (pss_cons (ps_set (i := 3) sc_xxs.nd rfl (Or.inl rfl) (pe_lst pa_nil))
    (pss_cons (ps_for PassesOwn.never rfl (pi_range1 rfl T.m_range (pa_cons (pv 2) pa_nil)) (pg_name (i := 4) sc_xxs.nd rfl (Or.inl rfl)) (pss_cons (ps_set (i := 5) sc_xxs.nd rfl (Or.inl rfl) (pe_ix ix_seq (pe_lst (pa_cons pe_int (pa_cons (pe_op op_sub (pv 1) pe_int) (pa_cons (pe_callG (ok_xnext T) (hr.mono (by decide)) hgu rfl T.g_xnext T.u_xnext.kp T.b_xnext (pa_cons (pv 0) (pa_cons (pv 1) pa_nil))) (pa_cons (pe_callG (ok_xnext T) (hr.mono (by decide)) hgu rfl T.g_xnext T.u_xnext.kp T.b_xnext (pa_cons (pv 0) (pa_cons (pv 1) pa_nil))) pa_nil))))) (pe_callG (ok_xnext T) (hr.mono (by decide)) hgu rfl T.g_xnext T.u_xnext.kp T.b_xnext (pa_cons (pv 0) (pa_cons pe_int pa_nil))) (fun _ _ => rfl)))
    (pss_cons (ps_while PassesOwn.never (pt_cmpR op_in_seq (pv 5) (pv 3) rfl) (pss_one (ps_set (i := 5) sc_xxs.nd rfl (Or.inl rfl) (pe_op op_mod (pe_op op_addA (pv 5) pe_int) (pv 1)))))
    (pss_one (ps_expr (pe_bm PySem.F.plainAttrs_list PySem.F.slot_list_append PySem.F.type_list_append mt_append (pv 3) (pa_cons (pv 5) pa_nil)))))))
    (pss_one (ps_ret (pe_callTy call_tuple1 rfl T.m_tuple (by decide +kernel) (pa_cons (pe_callB call_sorted1 rfl T.m_sorted (by decide +kernel) (pa_cons (pv 3) pa_nil)) pa_nil)))))))
theorem ok_fitting_many (T : Txt K mg) : FnG P w K mg base 1 T.a_fitting_many T.fd_fitting_many ["xs", "b"] (spF K 2 F_fitting_many) :=
  fn_okG (k := 0) (body := B_fitting_many) (N := N_fitting_many)
  (et_ret (ev_op (ev_op (ev_cb (ea_cons ev_var ea_nil) (cs_one us_len)) (ev_op ev_int ev_var os_mul) os_sub) ev_int os_add))
  T.u_fitting_many sc_fitting_many (fun cd A out s H hr hgu =>
  (pss_one (ps_ret (pe_op op_addA (pe_op op_sub (pe_callB call_len1 rfl T.m_len (by decide +kernel) (pa_cons (pv 0) pa_nil)) (pe_op op_mulA pe_int (pv 1))) pe_int))))
theorem ok_with_multiple (T : Txt K mg) : FnG P w K mg base 1 T.a_with_multiple T.fd_with_multiple ["p", "row", "other", "factor"] (spF K 4 F_with_multiple) :=
  fn_okG (k := 0) (body := B_with_multiple) (N := N_with_multiple)
  (et_ret (ev_lc (ei_zp (ea_cons ev_var (ea_cons ev_var ea_nil))) (eg_tup (is := [4, 5]) rfl) (gw_tup (by decide)) eb_yes (ev_op (ev_op ev_var (ev_op ev_var ev_var os_mul) os_add) ev_var os_mod)))
  T.u_with_multiple sc_with_multiple (fun cd A out s H hr hgu =>
  (pss_one (ps_ret (pe_lc (own := [("rest", 4), ("more", 5)]) rfl sc_with_multiple.nd (pi_zipM rfl T.m_zip (pa_cons (pv 1) (pa_cons (pv 2) pa_nil))) (blkOk_by (N := N_with_multiple) (sc := defScope s_with_multiple) (by decide +kernel)) (fun _ _ _ _ _ => (pg_tup rfl (pgs_cons (pg_name (i := 4) sc_with_multiple.nd rfl (Or.inl rfl)) (pgs_cons (pg_name (i := 5) sc_with_multiple.nd rfl (Or.inl rfl)) pgs_nil)))) (fun _ _ _ _ _ => pts_nil) (fun _ _ _ _ _ => (pe_op op_mod (pe_op op_addA (pv 4) (pe_op op_mulA (pv 3) (pv 5))) (pv 0)))))))
theorem ok_with_nought_at (T : Txt K mg) : FnG P w K mg base 2 T.a_with_nought_at T.fd_with_nought_at ["p", "row", "x"] (spF K 3 F_with_nought_at) :=
  fn_okG (k := 1) (body := B_with_nought_at) (N := N_with_nought_at)
  (et_ret (ev_call (ea_cons ev_var (ea_cons (ev_op (ev_lst (ea_cons ev_int ea_nil)) ev_var os_add) (ea_cons (ev_op ev_var (ev_lst (ea_cons ev_int ea_nil)) os_add) (ea_cons (ev_un ev_var us_neg) ea_nil)))) (na_cons (na_cons (na_cons (na_cons na_nil))))))
  T.u_with_nought_at sc_with_nought_at (fun cd A out s H hr hgu =>
  (pss_one (ps_ret (pe_callG (ok_with_multiple T) (hr.mono (by decide)) hgu rfl T.g_with_multiple T.u_with_multiple.kp T.b_with_multiple (pa_cons (pv 0) (pa_cons (pe_op op_addA (pe_lst (pa_cons pe_int pa_nil)) (pv 1)) (pa_cons (pe_op op_addA (pv 1) (pe_lst (pa_cons pe_int pa_nil))) (pa_cons (pe_un un_neg (pv 2)) pa_nil))))))))
theorem ok_worth_at (T : Txt K mg) : FnG P w K mg base 1 T.a_worth_at T.fd_worth_at ["p", "row", "x"] (spF K 3 F_worth_at) :=
  fn_okG (k := 0) (body := B_worth_at) (N := N_worth_at)
  (et_seq (et_asg ev_int eg_name)
    (et_seq (et_for (ei_rv ev_var) eg_name (et_asg (ev_op (ev_op (ev_op ev_var ev_var os_mul) ev_var os_add) ev_var os_mod) eg_name))
    (et_ret ev_var)))
  T.u_worth_at sc_worth_at (fun cd A out s H hr hgu =>
  (pss_cons (ps_set (i := 3) sc_worth_at.nd rfl (Or.inl rfl) pe_int)
    (pss_cons (ps_for PassesOwn.never rfl (RT.pi_revA rfl T.m_reversed (pv 1)) (pg_name (i := 4) sc_worth_at.nd rfl (Or.inl rfl)) (pss_one (ps_set (i := 3) sc_worth_at.nd rfl (Or.inl rfl) (pe_op op_mod (pe_op op_addA (pe_op op_mulA (pv 3) (pv 2)) (pv 4)) (pv 0)))))
    (pss_one (ps_ret (pv 3))))))
theorem ok_two_fitting (T : Txt K mg) : FnG P w K mg base 3 T.a_two_fitting T.fd_two_fitting ["p", "xs", "b"] (spF K 3 F_two_fitting) :=
  fn_okG (k := 2) (body := B_two_fitting) (N := N_two_fitting)
  (et_seq (et_asg (ev_call (ea_cons ev_var (ea_cons ev_var ea_nil)) (na_cons (na_cons na_nil))) eg_name)
    (et_seq (et_asg (ev_op (ev_tup (ea_cons ev_int ea_nil)) ev_var os_mul) eg_name)
    (et_seq (et_asg (ev_lst (ea_cons ev_int ea_nil)) eg_name)
    (et_seq (et_for (ei_sq (ev_sl ev_var ev_oNone (ev_oSome (ev_op ev_var ev_int os_sub)) ss_sl)) eg_name (et_asg (ev_call (ea_cons ev_var (ea_cons ev_var (ea_cons ev_var ea_nil))) (na_cons (na_cons (na_cons na_nil)))) eg_name))
    (et_seq (et_asg (ev_op (ev_lc (ei_sq (ev_sl ev_var ev_oNone (ev_oSome (ev_op (ev_cb (ea_cons ev_var ea_nil) (cs_one us_len)) ev_var os_sub)) ss_sl)) eg_name (gw_name (by decide)) eb_yes (ev_call (ea_cons ev_var (ea_cons ev_var (ea_cons ev_var ea_nil))) (na_cons (na_cons (na_cons na_nil))))) (ev_lc (ei_sq (ev_sl ev_var (ev_oSome (ev_op (ev_cb (ea_cons ev_var ea_nil) (cs_one us_len)) ev_var os_sub)) ev_oNone ss_sl)) eg_name (gw_name (by decide)) eb_yes (ev_call (ea_cons ev_var (ea_cons ev_var (ea_cons ev_var ea_nil))) (na_cons (na_cons (na_cons na_nil))))) os_add) eg_name)
    (et_ret (ev_tup (ea_cons ev_str (ea_cons ev_var (ea_cons (ev_cb (ea_cons ev_var ea_nil) (cs_one us_tuple)) (ea_cons (ev_cb (ea_cons ev_var ea_nil) (cs_one us_tuple)) ea_nil)))))))))))
  T.u_two_fitting sc_two_fitting (fun cd A out s H hr hgu =>
  (pss_cons (ps_set (i := 3) sc_two_fitting.nd rfl (Or.inl rfl) (pe_callG (ok_fitting_many T) (hr.mono (by decide)) hgu rfl T.g_fitting_many T.u_fitting_many.kp T.b_fitting_many (pa_cons (pv 1) (pa_cons (pv 2) pa_nil))))
    (pss_cons (ps_set (i := 4) sc_two_fitting.nd rfl (Or.inr rfl) (pe_op op_mulA (pe_tup (pa_cons pe_int pa_nil)) (pv 3)))
    (pss_cons (ps_set (i := 5) sc_two_fitting.nd rfl (Or.inr rfl) (pe_lst (pa_cons pe_int pa_nil)))
    (pss_cons (ps_for PassesOwn.never rfl (pi_sq (pe_slice sl_seq (pv 1) po_none (po_some (pe_op op_sub (pv 3) pe_int)))) (pg_name (i := 6) sc_two_fitting.nd rfl (Or.inl rfl)) (pss_one (ps_set (i := 5) sc_two_fitting.nd rfl (Or.inr rfl) (pe_callG (ok_with_nought_at T) (hr.mono (by decide)) hgu rfl T.g_with_nought_at T.u_with_nought_at.kp T.b_with_nought_at (pa_cons (pv 0) (pa_cons (pv 5) (pa_cons (pv 6) pa_nil)))))))
    (pss_cons (ps_set (i := 7) sc_two_fitting.nd rfl (Or.inl rfl) (pe_op op_addA (pe_lc (own := [("x", 6)]) rfl sc_two_fitting.nd (pi_sq (pe_slice sl_seq (pv 1) po_none (po_some (pe_op op_sub (pe_callB call_len1 rfl T.m_len (by decide +kernel) (pa_cons (pv 1) pa_nil)) (pv 2))))) (blkOk_by (N := N_two_fitting) (sc := defScope s_two_fitting) (by decide +kernel)) (fun _ _ _ _ _ => (pg_name (i := 6) sc_two_fitting.nd rfl (Or.inl rfl))) (fun _ _ _ _ _ => pts_nil) (fun _ _ _ _ _ => (pe_callG (ok_worth_at T) (hr.mono (by decide)) hgu rfl T.g_worth_at T.u_worth_at.kp T.b_worth_at (pa_cons (pv 0) (pa_cons (pv 4) (pa_cons (pv 6) pa_nil)))))) (pe_lc (own := [("x", 6)]) rfl sc_two_fitting.nd (pi_sq (pe_slice sl_seq (pv 1) (po_some (pe_op op_sub (pe_callB call_len1 rfl T.m_len (by decide +kernel) (pa_cons (pv 1) pa_nil)) (pv 2))) po_none)) (blkOk_by (N := N_two_fitting) (sc := defScope s_two_fitting) (by decide +kernel)) (fun _ _ _ _ _ => (pg_name (i := 6) sc_two_fitting.nd rfl (Or.inl rfl))) (fun _ _ _ _ _ => pts_nil) (fun _ _ _ _ _ => (pe_callG (ok_worth_at T) (hr.mono (by decide)) hgu rfl T.g_worth_at T.u_worth_at.kp T.b_worth_at (pa_cons (pv 0) (pa_cons (pv 5) (pa_cons (pv 6) pa_nil))))))))
    (pss_one (ps_ret (pe_tup (pa_cons pe_str (pa_cons (pv 4) (pa_cons (pe_callTy call_tuple1 rfl T.m_tuple (by decide +kernel) (pa_cons (pv 5) pa_nil)) (pa_cons (pe_callTy call_tuple1 rfl T.m_tuple (by decide +kernel) (pa_cons (pv 7) pa_nil)) pa_nil)))))))))))))
theorem ok_xone_more (T : Txt K mg) : FnG P w K mg base 2 T.a_xone_more T.fd_xone_more ["_law_drawn", "_law_p", "_law_xs_here"] (spF K 3 F_xone_more) :=
  fn_okG (k := 1) (body := B_xone_more) (N := N_xone_more)
  (et_seq (et_asg (ev_call (ea_cons ev_var (ea_cons ev_var ea_nil)) (na_cons (na_cons na_nil))) eg_name)
    (et_seq (et_while (eb_test (ev_op ev_var ev_var os_in)) (et_asg (ev_op (ev_op ev_var ev_int os_add) ev_var os_mod) eg_name))
    (et_ret ev_var)))
  T.u_xone_more sc_xone_more (fun cd A out s H hr hgu =>
  (pss_cons (ps_set (i := 3) sc_xone_more.nd rfl (Or.inl rfl) (pe_callG (ok_xnext T) (hr.mono (by decide)) hgu rfl T.g_xnext T.u_xnext.kp T.b_xnext (pa_cons (pv 0) (pa_cons (pv 1) pa_nil))))
    (pss_cons (ps_while PassesOwn.never (pt_cmpR op_in_seq (pv 3) (pv 2) rfl) (pss_one (ps_set (i := 3) sc_xone_more.nd rfl (Or.inl rfl) (pe_op op_mod (pe_op op_addA (pv 3) pe_int) (pv 1)))))
    (pss_one (ps_ret (pv 3))))))
theorem ok_groups_of (T : Txt K mg) : ∀ n : Nat, FnG P w K mg base (1 + n) T.a_groups_of T.fd_groups_of ["things", "many"] (spF K 2 (F_groups_of n))
  | 0 => (fn_noneG (k := 0) T.u_groups_of sc_groups_of).up (by decide)
  | n + 1 => by
    have ih : FnG P w K mg base (1 + n) T.a_groups_of T.fd_groups_of ["things", "many"] (spF K 2 (F_groups_of n)) := ok_groups_of T n
    exact fn_okG (k := 1 + n) (body := B_groups_of (F_groups_of n)) (N := N_groups_of)
      (et_seq (et_if (eb_test (ev_op ev_var ev_int os_lt)) (et_ret (ev_lst (ea_cons (ev_tup ea_nil) ea_nil))) et_next)
        (et_seq (et_asg (ev_new ea_nil) eg_name)
        (et_seq (et_frz (et_for (ei_r1 (ea_cons (ev_op (ev_op (ev_cb (ea_cons ev_var ea_nil) (cs_one us_len)) ev_var os_sub) ev_int os_add) ea_nil)) eg_name (et_ext ev_var (ev_lcN (ei_sq (ev_call (ea_cons (ev_sl ev_var (ev_oSome (ev_op ev_var ev_int os_add)) ev_oNone ss_sl) (ea_cons (ev_op ev_var ev_int os_sub) ea_nil)) (na_cons (na_cons na_nil)))) eg_name (gw_name (by decide)) eb_yes (ev_op (ev_tup (ea_cons (ev_op ev_var ev_var os_ix) ea_nil)) ev_var os_add)))))
        (et_ret ev_var))))
      T.u_groups_of sc_groups_of (fun cd A out s H hr hgu =>
      (pss_cons (ps_if (pt_cmpR op_lt (pv 1) pe_int rfl) (pss_one (ps_ret (pe_lst (pa_cons (pe_tup pa_nil) pa_nil)))) pss_nil)
        (pss_cons (ps_set (i := 2) sc_groups_of.nd rfl (Or.inl rfl) (pe_lst pa_nil))
        (pss_cons (ps_for PassesOwn.never rfl (pi_range1 rfl T.m_range (pa_cons (pe_op op_addA (pe_op op_sub (pe_callB call_len1 rfl T.m_len (by decide +kernel) (pa_cons (pv 0) pa_nil)) (pv 1)) pe_int) pa_nil)) (pg_name (i := 3) sc_groups_of.nd rfl (Or.inr rfl)) (pss_one (ps_expr (pe_bm PySem.F.plainAttrs_list PySem.F.slot_list_extend PySem.F.type_list_extend mt_extend (pv 2) (pa_cons (pe_lc (own := [("others", 4)]) rfl sc_groups_of.nd (pi_sq (pe_callG ih hr hgu rfl T.g_groups_of T.u_groups_of.kp T.b_groups_of (pa_cons (pe_slice sl_seq (pv 0) (po_some (pe_op op_addA (pv 3) pe_int)) po_none) (pa_cons (pe_op op_sub (pv 1) pe_int) pa_nil)))) (blkOk_by (N := N_groups_of) (sc := defScope s_groups_of) (by decide +kernel)) (fun _ _ _ _ _ => (pg_name (i := 4) sc_groups_of.nd rfl (Or.inl rfl))) (fun _ _ _ _ _ => pts_nil) (fun _ _ _ _ _ => (pe_op op_addA (pe_tup (pa_cons (pe_ix ix_seq (pv 0) (pv 3) (fun _ _ => rfl)) pa_nil)) (pv 4)))) pa_nil)))))
        (pss_one (ps_ret (pv 2)))))))
theorem ok_contrary (T : Txt K mg) : FnG P w K mg base 1 T.a_contrary T.fd_contrary ["p", "a"] (spF K 2 F_contrary) :=
  fn_okG (k := 0) (body := B_contrary) (N := N_contrary)
  (et_seq (et_par (ea_cons ev_var (ea_cons (ev_op ev_var ev_var os_mod) ea_nil)))
    (et_seq (et_asg (ev_tup (ea_cons ev_int (ea_cons ev_int ea_nil))) (eg_tup (is := [4, 5]) rfl))
    (et_seq (et_while (eb_truth ev_var) (et_seq (et_asg (ev_op ev_var ev_var os_div) eg_name)
    (et_seq (et_par (ea_cons ev_var (ea_cons (ev_op ev_var (ev_op ev_var ev_var os_mul) os_sub) ea_nil)))
    (et_par (ea_cons ev_var (ea_cons (ev_op ev_var (ev_op ev_var ev_var os_mul) os_sub) ea_nil))))))
    (et_ret (ev_op ev_var ev_var os_mod)))))
  T.u_contrary sc_contrary (fun cd A out s H hr hgu =>
  (pss_cons (ps_par (i := 2) (j := 3) rfl sc_contrary.nd rfl rfl (by decide) rfl rfl (pa_cons (pv 0) (pa_cons (pe_op op_mod (pv 1) (pv 0)) pa_nil)) rfl)
    (pss_cons (ps_asg (pe_tup (pa_cons pe_int (pa_cons pe_int pa_nil))) (pg_tup rfl (pgs_cons (pg_name (i := 4) sc_contrary.nd rfl (Or.inl rfl)) (pgs_cons (pg_name (i := 5) sc_contrary.nd rfl (Or.inl rfl)) pgs_nil))))
    (pss_cons (ps_while PassesOwn.never (pt_truth (pv 3) (fun _ => rfl)) (pss_cons (ps_set (i := 6) sc_contrary.nd rfl (Or.inl rfl) (pe_op op_fdivW (pv 2) (pv 3)))
    (pss_cons (ps_par (i := 2) (j := 3) rfl sc_contrary.nd rfl rfl (by decide) rfl rfl (pa_cons (pv 3) (pa_cons (pe_op op_sub (pv 2) (pe_op op_mulA (pv 6) (pv 3))) pa_nil)) rfl)
    (pss_one (ps_par (i := 4) (j := 5) rfl sc_contrary.nd rfl rfl (by decide) rfl rfl (pa_cons (pv 5) (pa_cons (pe_op op_sub (pv 4) (pe_op op_mulA (pv 6) (pv 5))) pa_nil)) rfl)))))
    (pss_one (ps_ret (pe_op op_mod (pv 4) (pv 0))))))))
theorem ok_through (T : Txt K mg) : FnG P w K mg base 3 T.a_through T.fd_through ["p", "pairs"] (spF K 2 F_through) :=
  fn_okG (k := 2) (body := B_through) (N := N_through)
  (et_seq (et_asg (ev_lst ea_nil) eg_name)
    (et_seq (et_asg (ev_lst (ea_cons ev_int ea_nil)) eg_name)
    (et_seq (et_for (ei_sq ev_var) (eg_tup (is := [4, 5]) rfl) (et_seq (et_asg (ev_op ev_var (ev_call (ea_cons ev_var (ea_cons ev_var (ea_cons ev_var ea_nil))) (na_cons (na_cons (na_cons na_nil)))) os_sub) eg_name)
    (et_seq (et_asg (ev_op ev_var (ev_call (ea_cons ev_var (ea_cons (ev_call (ea_cons ev_var (ea_cons ev_var (ea_cons ev_var ea_nil))) (na_cons (na_cons (na_cons na_nil)))) ea_nil)) (na_cons (na_cons na_nil))) os_mul) eg_name)
    (et_seq (et_asg (ev_call (ea_cons ev_var (ea_cons (ev_op ev_var (ev_lst (ea_cons ev_int ea_nil)) os_add) (ea_cons ev_var (ea_cons ev_var ea_nil)))) (na_cons (na_cons (na_cons (na_cons na_nil))))) eg_name)
    (et_asg (ev_call (ea_cons ev_var (ea_cons ev_var (ea_cons ev_var ea_nil))) (na_cons (na_cons (na_cons na_nil)))) eg_name)))))
    (et_ret (ev_cb (ea_cons ev_var ea_nil) (cs_one us_tuple))))))
  T.u_through sc_through (fun cd A out s H hr hgu =>
  (pss_cons (ps_set (i := 2) sc_through.nd rfl (Or.inl rfl) (pe_lst pa_nil))
    (pss_cons (ps_set (i := 3) sc_through.nd rfl (Or.inl rfl) (pe_lst (pa_cons pe_int pa_nil)))
    (pss_cons (ps_for PassesOwn.never rfl (pi_sq (pv 1)) (pg_tup rfl (pgs_cons (pg_name (i := 4) sc_through.nd rfl (Or.inl rfl)) (pgs_cons (pg_name (i := 5) sc_through.nd rfl (Or.inl rfl)) pgs_nil))) (pss_cons (ps_set (i := 6) sc_through.nd rfl (Or.inl rfl) (pe_op op_sub (pv 5) (pe_callG (ok_worth_at T) (hr.mono (by decide)) hgu rfl T.g_worth_at T.u_worth_at.kp T.b_worth_at (pa_cons (pv 0) (pa_cons (pv 2) (pa_cons (pv 4) pa_nil))))))
    (pss_cons (ps_set (i := 7) sc_through.nd rfl (Or.inl rfl) (pe_op op_mulA (pv 6) (pe_callG (ok_contrary T) (hr.mono (by decide)) hgu rfl T.g_contrary T.u_contrary.kp T.b_contrary (pa_cons (pv 0) (pa_cons (pe_callG (ok_worth_at T) (hr.mono (by decide)) hgu rfl T.g_worth_at T.u_worth_at.kp T.b_worth_at (pa_cons (pv 0) (pa_cons (pv 3) (pa_cons (pv 4) pa_nil)))) pa_nil)))))
    (pss_cons (ps_set (i := 2) sc_through.nd rfl (Or.inl rfl) (pe_callG (ok_with_multiple T) (hr.mono (by decide)) hgu rfl T.g_with_multiple T.u_with_multiple.kp T.b_with_multiple (pa_cons (pv 0) (pa_cons (pe_op op_addA (pv 2) (pe_lst (pa_cons pe_int pa_nil))) (pa_cons (pv 3) (pa_cons (pv 7) pa_nil))))))
    (pss_one (ps_set (i := 3) sc_through.nd rfl (Or.inl rfl) (pe_callG (ok_with_nought_at T) (hr.mono (by decide)) hgu rfl T.g_with_nought_at T.u_with_nought_at.kp T.b_with_nought_at (pa_cons (pv 0) (pa_cons (pv 3) (pa_cons (pv 4) pa_nil))))))))))
    (pss_one (ps_ret (pe_callTy call_tuple1 rfl T.m_tuple (by decide +kernel) (pa_cons (pv 2) pa_nil))))))))
theorem ok_misfits (T : Txt K mg) : FnG P w K mg base 2 T.a_misfits T.fd_misfits ["p", "row", "pairs"] (spF K 3 F_misfits) :=
  fn_okG (k := 1) (body := B_misfits) (N := N_misfits)
  (et_ret (ev_cb (ea_cons (ev_lc (ei_sq ev_var) (eg_tup (is := [3, 4]) rfl) (gw_tup (by decide)) (eb_test (ev_op (ev_call (ea_cons ev_var (ea_cons ev_var (ea_cons ev_var ea_nil))) (na_cons (na_cons (na_cons na_nil)))) (ev_op ev_var ev_var os_mod) os_ne)) ev_var) ea_nil) (cs_one us_tuple)))
  T.u_misfits sc_misfits (fun cd A out s H hr hgu =>
  (pss_one (ps_ret (pe_callTy call_tuple1 rfl T.m_tuple (by decide +kernel) (pa_cons (pe_lc (own := [("x", 3), ("rest", 4)]) rfl sc_misfits.nd (pi_sq (pv 2)) (blkOk_by (N := N_misfits) (sc := defScope s_misfits) (by decide +kernel)) (fun _ _ _ _ _ => (pg_tup rfl (pgs_cons (pg_name (i := 3) sc_misfits.nd rfl (Or.inl rfl)) (pgs_cons (pg_name (i := 4) sc_misfits.nd rfl (Or.inl rfl)) pgs_nil)))) (fun _ _ _ _ _ => (pts_one (pt_cmpR (op_neA (room64 hr)) (pe_callG (ok_worth_at T) (hr.mono (by decide)) hgu rfl T.g_worth_at T.u_worth_at.kp T.b_worth_at (pa_cons (pv 0) (pa_cons (pv 1) (pa_cons (pv 3) pa_nil)))) (pe_op op_mod (pv 4) (pv 0)) rfl))) (fun _ _ _ _ _ => (pv 3))) pa_nil)))))
theorem ok_fitting (T : Txt K mg) : FnG P w K mg base 12 T.a_fitting T.fd_fitting ["p", "many", "pairs"] (spF K 3 F_fitting) :=
  fn_okG (k := 11) (body := B_fitting) (N := N_fitting)
  (et_seq (et_asg (ev_op (ev_op (ev_cb (ea_cons ev_var ea_nil) (cs_one us_len)) ev_var os_sub) ev_int os_div) eg_name)
    (et_seq (et_for (ei_sq (ev_call (ea_cons ev_var (ea_cons ev_var ea_nil)) (na_cons (na_cons na_nil)))) eg_name (et_seq (et_asg (ev_call (ea_cons ev_var (ea_cons ev_var ea_nil)) (na_cons (na_cons na_nil))) eg_name)
    (et_seq (et_asg (ev_call (ea_cons ev_var (ea_cons ev_var (ea_cons ev_var ea_nil))) (na_cons (na_cons (na_cons na_nil)))) eg_name)
    (et_if (eb_test (ev_op (ev_cb (ea_cons ev_var ea_nil) (cs_one us_len)) ev_var os_le)) (et_ret (ev_tup (ea_cons ev_var (ea_cons ev_var ea_nil)))) et_next))))
    (et_ret ev_non)))
  T.u_fitting sc_fitting (fun cd A out s H hr hgu =>
  (pss_cons (ps_set (i := 3) sc_fitting.nd rfl (Or.inl rfl) (pe_op op_fdivW (pe_op op_sub (pe_callB call_len1 rfl T.m_len (by decide +kernel) (pa_cons (pv 2) pa_nil)) (pv 1)) pe_int))
    (pss_cons (ps_for PassesOwn.never rfl (pi_sq (pe_callG (ok_groups_of T 10) (hr.mono (by decide)) hgu rfl T.g_groups_of T.u_groups_of.kp T.b_groups_of (pa_cons (pv 2) (pa_cons (pv 1) pa_nil)))) (pg_name (i := 4) sc_fitting.nd rfl (Or.inl rfl)) (pss_cons (ps_set (i := 5) sc_fitting.nd rfl (Or.inl rfl) (pe_callG (ok_through T) (hr.mono (by decide)) hgu rfl T.g_through T.u_through.kp T.b_through (pa_cons (pv 0) (pa_cons (pv 4) pa_nil))))
    (pss_cons (ps_set (i := 6) sc_fitting.nd rfl (Or.inl rfl) (pe_callG (ok_misfits T) (hr.mono (by decide)) hgu rfl T.g_misfits T.u_misfits.kp T.b_misfits (pa_cons (pv 0) (pa_cons (pv 5) (pa_cons (pv 2) pa_nil)))))
    (pss_one (ps_if (pt_cmpR op_le (pe_callB call_len1 rfl T.m_len (by decide +kernel) (pa_cons (pv 6) pa_nil)) (pv 3) rfl) (pss_one (ps_ret (pe_tup (pa_cons (pv 5) (pa_cons (pv 6) pa_nil))))) pss_nil)))))
    (pss_one (ps_ret pe_non)))))
theorem ok_xvalue (T : Txt K mg) : FnG P w K mg base 1 T.a_xvalue T.fd_xvalue ["_law_p", "_law_row", "_law_x"] (spF K 3 F_xvalue) :=
  fn_okG (k := 0) (body := B_xvalue) (N := N_xvalue)
  (et_seq (et_asg ev_int eg_name)
    (et_seq (et_for (ei_sq (ev_rev ev_var)) eg_name (et_asg (ev_op (ev_op (ev_op ev_var ev_var os_mul) ev_var os_add) ev_var os_mod) eg_name))
    (et_ret ev_var)))
  T.u_xvalue sc_xvalue (fun cd A out s H hr hgu =>
  (pss_cons (ps_set (i := 3) sc_xvalue.nd rfl (Or.inl rfl) pe_int)
    (pss_cons (ps_for PassesOwn.never rfl (pi_sq (pe_revA (pv 1))) (pg_name (i := 4) sc_xvalue.nd rfl (Or.inl rfl)) (pss_one (ps_set (i := 3) sc_xvalue.nd rfl (Or.inl rfl) (pe_op op_mod (pe_op op_addA (pe_op op_mulA (pv 3) (pv 2)) (pv 4)) (pv 0)))))
    (pss_one (ps_ret (pv 3))))))
theorem ok_xrows_right (T : Txt K mg) : FnG P w K mg base 13 T.a_xrows_right T.fd_xrows_right ["_law_drawn"] (spF K 1 F_xrows_right) :=
  fn_okG (k := 12) (body := B_xrows_right) (N := N_xrows_right)
  (et_seq (et_asg (ev_call (ea_cons ev_var ea_nil) (na_cons na_nil)) eg_name)
    (et_seq (et_asg (ev_call (ea_cons ev_var (ea_cons ev_var (ea_cons (ev_op ev_int (ev_call (ea_cons ev_var (ea_cons ev_int ea_nil)) (na_cons (na_cons na_nil))) os_add) ea_nil))) (na_cons (na_cons (na_cons na_nil)))) eg_name)
    (et_seq (et_asg (ev_op ev_int (ev_call (ea_cons ev_var (ea_cons (ev_op (ev_cb (ea_cons ev_var ea_nil) (cs_one us_len)) ev_int os_div) ea_nil)) (na_cons (na_cons na_nil))) os_add) eg_name)
    (et_seq (et_asg (ev_call (ea_cons ev_var (ea_cons ev_var (ea_cons ev_var ea_nil))) (na_cons (na_cons (na_cons na_nil)))) (eg_tup (is := [4, 5, 6, 7]) rfl))
    (et_seq (et_asg (ev_call (ea_cons ev_var (ea_cons ev_var (ea_cons ev_var ea_nil))) (na_cons (na_cons (na_cons na_nil)))) eg_name)
    (et_seq (et_for (ei_sq (ev_tup (ea_cons ev_var (ea_cons ev_var ea_nil)))) eg_name (et_seq (et_asg (ev_cb (ea_cons (ev_cb (ea_cons (ev_op (ev_zpL (ea_cons ev_var (ea_cons ev_var ea_nil))) (ev_lst (ea_cons (ev_tup (ea_cons ev_var (ea_cons (ev_call (ea_cons ev_var (ea_cons ev_var (ea_cons ev_var ea_nil))) (na_cons (na_cons (na_cons na_nil)))) ea_nil))) ea_nil)) os_add) ea_nil) (cs_one us_sortK)) ea_nil) (cs_one us_tuple)) eg_name)
    (et_seq (et_asg (ev_cb (ea_cons (ev_lc (ei_sq ev_var) (eg_tup (is := [12, 13]) rfl) (gw_tup (by decide)) (eb_test (ev_op (ev_call (ea_cons ev_var (ea_cons ev_var (ea_cons ev_var ea_nil))) (na_cons (na_cons (na_cons na_nil)))) ev_var os_ne)) ev_var) ea_nil) (cs_one us_tuple)) eg_name)
    (et_if (eb_test (ev_op (ev_cb (ea_cons (ev_call (ea_cons ev_var (ea_cons (ev_cb (ea_cons ev_var ea_nil) (cs_one us_len)) (ea_cons ev_var ea_nil))) (na_cons (na_cons (na_cons na_nil)))) ea_nil) (cs_one us_repr)) (ev_cb (ea_cons (ev_tup (ea_cons ev_var (ea_cons ev_var ea_nil))) ea_nil) (cs_one us_repr)) os_ne)) (et_ret ev_bl) et_next))))
    (et_ret ev_bl)))))))
  T.u_xrows_right sc_xrows_right (fun cd A out s H hr hgu =>
  (pss_cons (ps_set (i := 1) sc_xrows_right.nd rfl (Or.inr rfl) (pe_callG (ok_xprime T) (hr.mono (by decide)) hgu rfl T.g_xprime T.u_xprime.kp T.b_xprime (pa_cons (pv 0) pa_nil)))
    (pss_cons (ps_set (i := 2) sc_xrows_right.nd rfl (Or.inl rfl) (pe_callG (ok_xxs T) (hr.mono (by decide)) hgu rfl T.g_xxs T.u_xxs.kp T.b_xxs (pa_cons (pv 0) (pa_cons (pv 1) (pa_cons (pe_op op_addA pe_int (pe_callG (ok_xnext T) (hr.mono (by decide)) hgu rfl T.g_xnext T.u_xnext.kp T.b_xnext (pa_cons (pv 0) (pa_cons pe_int pa_nil)))) pa_nil)))))
    (pss_cons (ps_set (i := 3) sc_xrows_right.nd rfl (Or.inl rfl) (pe_op op_addA pe_int (pe_callG (ok_xnext T) (hr.mono (by decide)) hgu rfl T.g_xnext T.u_xnext.kp T.b_xnext (pa_cons (pv 0) (pa_cons (pe_op op_fdivW (pe_callB call_len1 rfl T.m_len (by decide +kernel) (pa_cons (pv 2) pa_nil)) pe_int) pa_nil)))))
    (pss_cons (ps_asg (pe_callG (ok_two_fitting T) (hr.mono (by decide)) hgu rfl T.g_two_fitting T.u_two_fitting.kp T.b_two_fitting (pa_cons (pv 1) (pa_cons (pv 2) (pa_cons (pv 3) pa_nil)))) (pg_tup rfl (pgs_cons (pg_name (i := 4) sc_xrows_right.nd rfl (Or.inl rfl)) (pgs_cons (pg_name (i := 5) sc_xrows_right.nd rfl (Or.inl rfl)) (pgs_cons (pg_name (i := 6) sc_xrows_right.nd rfl (Or.inl rfl)) (pgs_cons (pg_name (i := 7) sc_xrows_right.nd rfl (Or.inl rfl)) pgs_nil))))))
    (pss_cons (ps_set (i := 8) sc_xrows_right.nd rfl (Or.inl rfl) (pe_callG (ok_xone_more T) (hr.mono (by decide)) hgu rfl T.g_xone_more T.u_xone_more.kp T.b_xone_more (pa_cons (pv 0) (pa_cons (pv 1) (pa_cons (pv 2) pa_nil)))))
    (pss_cons (ps_for PassesOwn.never rfl (pi_sq (pe_tup (pa_cons (pv 5) (pa_cons (pv 6) pa_nil)))) (pg_name (i := 9) sc_xrows_right.nd rfl (Or.inr rfl)) (pss_cons (ps_set (i := 10) sc_xrows_right.nd rfl (Or.inl rfl) (pe_callTy call_tuple1 rfl T.m_tuple (by decide +kernel) (pa_cons (pe_callB call_sortK rfl T.m_sorted (by decide +kernel) (pa_cons (pe_op op_addA (pe_listZip rfl rfl T.m_list rfl T.m_zip (pa_cons (pv 2) (pa_cons (pv 7) pa_nil))) (pe_lst (pa_cons (pe_tup (pa_cons (pv 8) (pa_cons (pe_callG (ok_xvalue T) (hr.mono (by decide)) hgu rfl T.g_xvalue T.u_xvalue.kp T.b_xvalue (pa_cons (pv 1) (pa_cons (pv 9) (pa_cons (pv 8) pa_nil)))) pa_nil))) pa_nil))) pa_nil)) pa_nil)))
    (pss_cons (ps_set (i := 11) sc_xrows_right.nd rfl (Or.inl rfl) (pe_callTy call_tuple1 rfl T.m_tuple (by decide +kernel) (pa_cons (pe_lc (own := [("_law_y", 12), ("_law_rest", 13)]) rfl sc_xrows_right.nd (pi_sq (pv 10)) (blkOk_by (N := N_xrows_right) (sc := defScope s_xrows_right) (by decide +kernel)) (fun _ _ _ _ _ => (pg_tup rfl (pgs_cons (pg_name (i := 12) sc_xrows_right.nd rfl (Or.inl rfl)) (pgs_cons (pg_name (i := 13) sc_xrows_right.nd rfl (Or.inl rfl)) pgs_nil)))) (fun _ _ _ _ _ => (pts_one (pt_cmpR (op_neA (room64 hr)) (pe_callG (ok_xvalue T) (hr.mono (by decide)) hgu rfl T.g_xvalue T.u_xvalue.kp T.b_xvalue (pa_cons (pv 1) (pa_cons (pv 9) (pa_cons (pv 12) pa_nil)))) (pv 13) rfl))) (fun _ _ _ _ _ => (pv 12))) pa_nil)))
    (pss_one (ps_if (pt_cmpR (op_neA (room64 hr)) (pe_callB (call_repr1 hgu hr) rfl T.m_repr (by decide +kernel) (pa_cons (pe_callG (ok_fitting T) (hr.mono (by decide)) hgu rfl T.g_fitting T.u_fitting.kp T.b_fitting (pa_cons (pv 1) (pa_cons (pe_callB call_len1 rfl T.m_len (by decide +kernel) (pa_cons (pv 5) pa_nil)) (pa_cons (pv 10) pa_nil)))) pa_nil)) (pe_callB (call_repr1 hgu hr) rfl T.m_repr (by decide +kernel) (pa_cons (pe_tup (pa_cons (pv 9) (pa_cons (pv 11) pa_nil))) pa_nil)) rfl) (pss_one (ps_ret pe_bl)) pss_nil)))))
    (pss_one (ps_ret pe_bl)))))))))
theorem ok_xshape (T : Txt K mg) : FnG P w K mg base 3 T.a_xshape T.fd_xshape ["_law_drawn", "_law_most"] (spF K 2 F_xshape) :=
  fn_okG (k := 2) (body := B_xshape) (N := N_xshape)
  (et_seq (et_asg (ev_op ev_int (ev_call (ea_cons ev_var (ea_cons ev_var ea_nil)) (na_cons (na_cons na_nil))) os_add) eg_name)
    (et_seq (et_asg (ev_op ev_int (ev_call (ea_cons ev_var (ea_cons ev_var ea_nil)) (na_cons (na_cons na_nil))) os_add) eg_name)
    (et_ret (ev_tup (ea_cons (ev_call (ea_cons ev_var ea_nil) (na_cons na_nil)) (ea_cons ev_var (ea_cons ev_var (ea_cons (ev_call (ea_cons ev_var (ea_cons ev_var ea_nil)) (na_cons (na_cons na_nil))) ea_nil))))))))
  T.u_xshape sc_xshape (fun cd A out s H hr hgu =>
  (pss_cons (ps_set (i := 2) sc_xshape.nd rfl (Or.inl rfl) (pe_op op_addA pe_int (pe_callG (ok_xnext T) (hr.mono (by decide)) hgu rfl T.g_xnext T.u_xnext.kp T.b_xnext (pa_cons (pv 0) (pa_cons (pv 1) pa_nil)))))
    (pss_cons (ps_set (i := 3) sc_xshape.nd rfl (Or.inl rfl) (pe_op op_addA pe_int (pe_callG (ok_xnext T) (hr.mono (by decide)) hgu rfl T.g_xnext T.u_xnext.kp T.b_xnext (pa_cons (pv 0) (pa_cons (pv 2) pa_nil)))))
    (pss_one (ps_ret (pe_tup (pa_cons (pe_callG (ok_xprime T) (hr.mono (by decide)) hgu rfl T.g_xprime T.u_xprime.kp T.b_xprime (pa_cons (pv 0) pa_nil)) (pa_cons (pv 3) (pa_cons (pv 2) (pa_cons (pe_callG (ok_xnext T) (hr.mono (by decide)) hgu rfl T.g_xnext T.u_xnext.kp T.b_xnext (pa_cons (pv 0) (pa_cons (pv 3) pa_nil))) pa_nil))))))))))
theorem ok_alike_on (T : Txt K mg) : FnG P w K mg base 3 T.a_alike_on T.fd_alike_on ["shape", "xs"] (spF K 2 F_alike_on) :=
  fn_okG (k := 2) (body := B_alike_on) (N := N_alike_on)
  (et_seq (et_asg ev_var (eg_tup (is := [2, 3, 4, 5]) rfl))
    (et_seq (et_asg (ev_lst (ea_cons ev_int ea_nil)) eg_name)
    (et_seq (et_for (ei_sq ev_var) eg_name (et_asg (ev_call (ea_cons ev_var (ea_cons ev_var (ea_cons ev_var ea_nil))) (na_cons (na_cons (na_cons na_nil)))) eg_name))
    (et_seq (et_asg (ev_sl (ev_op ev_var (ev_frz (ev_repN (ev_new (ea_cons ev_int ea_nil)) ev_var)) os_add) ev_oNone (ev_oSome ev_var) ss_sl) eg_name)
    (et_ret (ev_cb (ea_cons (ev_lc (ei_sq ev_var) eg_name (gw_name (by decide)) eb_yes (ev_cb (ea_cons (ev_lc (ei_sq ev_var) eg_name (gw_name (by decide)) eb_yes (ev_op (ev_op ev_var ev_var os_mul) ev_var os_mod)) ea_nil) (cs_one us_tuple))) ea_nil) (cs_one us_tuple)))))))
  T.u_alike_on sc_alike_on (fun cd A out s H hr hgu =>
  (pss_cons (ps_asg (pv 0) (pg_tup rfl (pgs_cons (pg_name (i := 2) sc_alike_on.nd rfl (Or.inr rfl)) (pgs_cons (pg_name (i := 3) sc_alike_on.nd rfl (Or.inl rfl)) (pgs_cons (pg_name (i := 4) sc_alike_on.nd rfl (Or.inl rfl)) (pgs_cons (pg_name (i := 5) sc_alike_on.nd rfl (Or.inl rfl)) pgs_nil))))))
    (pss_cons (ps_set (i := 6) sc_alike_on.nd rfl (Or.inl rfl) (pe_lst (pa_cons pe_int pa_nil)))
    (pss_cons (ps_for PassesOwn.never rfl (pi_sq (pv 1)) (pg_name (i := 7) sc_alike_on.nd rfl (Or.inl rfl)) (pss_one (ps_set (i := 6) sc_alike_on.nd rfl (Or.inl rfl) (pe_callG (ok_with_nought_at T) (hr.mono (by decide)) hgu rfl T.g_with_nought_at T.u_with_nought_at.kp T.b_with_nought_at (pa_cons (pv 2) (pa_cons (pv 6) (pa_cons (pv 7) pa_nil)))))))
    (pss_cons (ps_set (i := 8) sc_alike_on.nd rfl (Or.inr rfl) (pe_slice sl_seq (pe_op op_addA (pv 6) (pe_op op_rep (pe_lst (pa_cons pe_int pa_nil)) (pv 4))) po_none (po_some (pv 4))))
    (pss_one (ps_ret (pe_callTy call_tuple1 rfl T.m_tuple (by decide +kernel) (pa_cons (pe_lc (own := [("one", 9)]) rfl sc_alike_on.nd (pi_sq (pv 8)) (blkOk_by (N := N_alike_on) (sc := defScope s_alike_on) (by decide +kernel)) (fun _ _ _ _ _ => (pg_name (i := 9) sc_alike_on.nd rfl (Or.inr rfl))) (fun _ _ _ _ _ => pts_nil) (fun _ _ _ _ _ => (pe_callTy call_tuple1 rfl T.m_tuple (by decide +kernel) (pa_cons (pe_lc (own := [("other", 10)]) rfl sc_alike_on.nd (pi_sq (pv 8)) (blkOk_by (N := N_alike_on) (by kernel_rfl)) (fun _ _ _ _ _ => (pg_name (i := 10) sc_alike_on.nd rfl (Or.inl rfl))) (fun _ _ _ _ _ => pts_nil) (fun _ _ _ _ _ => (pe_op op_mod (pe_op op_mulA (pv 9) (pv 10)) (pv 2)))) pa_nil)))) pa_nil)))))))))
theorem ok_powers_of (T : Txt K mg) : FnG P w K mg base 1 T.a_powers_of T.fd_powers_of ["p", "many", "x"] (spF K 3 F_powers_of) :=
  fn_okG (k := 0) (body := B_powers_of) (N := N_powers_of)
  (et_seq (et_asg (ev_new ea_nil) eg_name)
    (et_seq (et_asg ev_int eg_name)
    (et_seq (et_frz (et_for (ei_r1 (ea_cons ev_var ea_nil)) eg_name (et_seq (et_app ev_var ev_var)
    (et_asg (ev_op (ev_op ev_var ev_var os_mul) ev_var os_mod) eg_name))))
    (et_ret (ev_cb (ea_cons ev_var ea_nil) (cs_one us_tuple))))))
  T.u_powers_of sc_powers_of (fun cd A out s H hr hgu =>
  (pss_cons (ps_set (i := 3) sc_powers_of.nd rfl (Or.inl rfl) (pe_lst pa_nil))
    (pss_cons (ps_set (i := 4) sc_powers_of.nd rfl (Or.inl rfl) pe_int)
    (pss_cons (ps_for PassesOwn.never rfl (pi_range1 rfl T.m_range (pa_cons (pv 1) pa_nil)) (pg_name (i := 5) sc_powers_of.nd rfl (Or.inl rfl)) (pss_cons (ps_expr (pe_bm PySem.F.plainAttrs_list PySem.F.slot_list_append PySem.F.type_list_append mt_append (pv 3) (pa_cons (pv 4) pa_nil)))
    (pss_one (ps_set (i := 4) sc_powers_of.nd rfl (Or.inl rfl) (pe_op op_mod (pe_op op_mulA (pv 4) (pv 2)) (pv 0))))))
    (pss_one (ps_ret (pe_callTy call_tuple1 rfl T.m_tuple (by decide +kernel) (pa_cons (pv 3) pa_nil))))))))
theorem ok_keeps_of (T : Txt K mg) : FnG P w K mg base 2 T.a_keeps_of T.fd_keeps_of ["shape", "table", "x"] (spF K 3 F_keeps_of) :=
  fn_okG (k := 1) (body := B_keeps_of) (N := N_keeps_of)
  (et_seq (et_asg ev_var (eg_tup (is := [3, 4, 5, 6]) rfl))
    (et_seq (et_asg (ev_frz (ev_repN (ev_new (ea_cons ev_int ea_nil)) ev_var)) eg_name)
    (et_seq (et_for (ei_zp (ea_cons ev_var (ea_cons (ev_call (ea_cons ev_var (ea_cons ev_var (ea_cons ev_var ea_nil))) (na_cons (na_cons (na_cons na_nil)))) ea_nil))) (eg_tup (is := [8, 9]) rfl) (et_asg (ev_call (ea_cons ev_var (ea_cons ev_var (ea_cons ev_var (ea_cons ev_var ea_nil)))) (na_cons (na_cons (na_cons (na_cons na_nil))))) eg_name))
    (et_ret (ev_cb (ea_cons ev_var ea_nil) (cs_one us_tuple))))))
  T.u_keeps_of sc_keeps_of (fun cd A out s H hr hgu =>
  (pss_cons (ps_asg (pv 0) (pg_tup rfl (pgs_cons (pg_name (i := 3) sc_keeps_of.nd rfl (Or.inl rfl)) (pgs_cons (pg_name (i := 4) sc_keeps_of.nd rfl (Or.inl rfl)) (pgs_cons (pg_name (i := 5) sc_keeps_of.nd rfl (Or.inl rfl)) (pgs_cons (pg_name (i := 6) sc_keeps_of.nd rfl (Or.inl rfl)) pgs_nil))))))
    (pss_cons (ps_set (i := 7) sc_keeps_of.nd rfl (Or.inl rfl) (pe_op op_rep (pe_lst (pa_cons pe_int pa_nil)) (pv 5)))
    (pss_cons (ps_for PassesOwn.never rfl (pi_zipM rfl T.m_zip (pa_cons (pv 1) (pa_cons (pe_callG (ok_powers_of T) (hr.mono (by decide)) hgu rfl T.g_powers_of T.u_powers_of.kp T.b_powers_of (pa_cons (pv 3) (pa_cons (pv 5) (pa_cons (pv 2) pa_nil)))) pa_nil))) (pg_tup rfl (pgs_cons (pg_name (i := 8) sc_keeps_of.nd rfl (Or.inl rfl)) (pgs_cons (pg_name (i := 9) sc_keeps_of.nd rfl (Or.inl rfl)) pgs_nil))) (pss_one (ps_set (i := 7) sc_keeps_of.nd rfl (Or.inl rfl) (pe_callG (ok_with_multiple T) (hr.mono (by decide)) hgu rfl T.g_with_multiple T.u_with_multiple.kp T.b_with_multiple (pa_cons (pv 3) (pa_cons (pv 7) (pa_cons (pv 8) (pa_cons (pv 9) pa_nil))))))))
    (pss_one (ps_ret (pe_callTy call_tuple1 rfl T.m_tuple (by decide +kernel) (pa_cons (pv 7) pa_nil))))))))
theorem ok_two_read (T : Txt K mg) : FnG P w K mg base 4 T.a_two_read T.fd_two_read ["shape", "xs", "b"] (spF K 3 F_two_read) :=
  fn_okG (k := 3) (body := B_two_read) (N := N_two_read)
  (et_seq (et_asg ev_var (eg_tup (is := [3, 4, 5, 6]) rfl))
    (et_seq (et_asg (ev_op (ev_tup (ea_cons (ev_op (ev_tup (ea_cons ev_int ea_nil)) ev_var os_mul) ea_nil)) ev_var os_mul) eg_name)
    (et_seq (et_asg (ev_call (ea_cons ev_var (ea_cons (ev_sl ev_var ev_oNone (ev_oSome (ev_op ev_var ev_int os_sub)) ss_sl) ea_nil)) (na_cons (na_cons na_nil))) eg_name)
    (et_seq (et_asg (ev_op (ev_lc (ei_sq (ev_sl ev_var ev_oNone (ev_oSome (ev_op (ev_cb (ea_cons ev_var ea_nil) (cs_one us_len)) ev_var os_sub)) ss_sl)) eg_name (gw_name (by decide)) eb_yes (ev_call (ea_cons ev_var (ea_cons ev_var (ea_cons ev_var ea_nil))) (na_cons (na_cons (na_cons na_nil))))) (ev_lc (ei_sq (ev_sl ev_var (ev_oSome (ev_op (ev_cb (ea_cons ev_var ea_nil) (cs_one us_len)) ev_var os_sub)) ev_oNone ss_sl)) eg_name (gw_name (by decide)) eb_yes (ev_call (ea_cons ev_var (ea_cons ev_var (ea_cons ev_var ea_nil))) (na_cons (na_cons (na_cons na_nil))))) os_add) eg_name)
    (et_ret (ev_tup (ea_cons ev_str (ea_cons ev_var (ea_cons ev_var (ea_cons (ev_cb (ea_cons ev_var ea_nil) (cs_one us_tuple)) ea_nil))))))))))
  T.u_two_read sc_two_read (fun cd A out s H hr hgu =>
  (pss_cons (ps_asg (pv 0) (pg_tup rfl (pgs_cons (pg_name (i := 3) sc_two_read.nd rfl (Or.inl rfl)) (pgs_cons (pg_name (i := 4) sc_two_read.nd rfl (Or.inl rfl)) (pgs_cons (pg_name (i := 5) sc_two_read.nd rfl (Or.inl rfl)) (pgs_cons (pg_name (i := 6) sc_two_read.nd rfl (Or.inl rfl)) pgs_nil))))))
    (pss_cons (ps_set (i := 7) sc_two_read.nd rfl (Or.inr rfl) (pe_op op_mulA (pe_tup (pa_cons (pe_op op_mulA (pe_tup (pa_cons pe_int pa_nil)) (pv 5)) pa_nil)) (pv 5)))
    (pss_cons (ps_set (i := 8) sc_two_read.nd rfl (Or.inr rfl) (pe_callG (ok_alike_on T) (hr.mono (by decide)) hgu rfl T.g_alike_on T.u_alike_on.kp T.b_alike_on (pa_cons (pv 0) (pa_cons (pe_slice sl_seq (pv 1) po_none (po_some (pe_op op_sub (pv 4) pe_int))) pa_nil))))
    (pss_cons (ps_set (i := 9) sc_two_read.nd rfl (Or.inl rfl) (pe_op op_addA (pe_lc (own := [("x", 10)]) rfl sc_two_read.nd (pi_sq (pe_slice sl_seq (pv 1) po_none (po_some (pe_op op_sub (pe_callB call_len1 rfl T.m_len (by decide +kernel) (pa_cons (pv 1) pa_nil)) (pv 2))))) (blkOk_by (N := N_two_read) (sc := defScope s_two_read) (by decide +kernel)) (fun _ _ _ _ _ => (pg_name (i := 10) sc_two_read.nd rfl (Or.inl rfl))) (fun _ _ _ _ _ => pts_nil) (fun _ _ _ _ _ => (pe_callG (ok_keeps_of T) (hr.mono (by decide)) hgu rfl T.g_keeps_of T.u_keeps_of.kp T.b_keeps_of (pa_cons (pv 0) (pa_cons (pv 7) (pa_cons (pv 10) pa_nil)))))) (pe_lc (own := [("x", 10)]) rfl sc_two_read.nd (pi_sq (pe_slice sl_seq (pv 1) (po_some (pe_op op_sub (pe_callB call_len1 rfl T.m_len (by decide +kernel) (pa_cons (pv 1) pa_nil)) (pv 2))) po_none)) (blkOk_by (N := N_two_read) (sc := defScope s_two_read) (by decide +kernel)) (fun _ _ _ _ _ => (pg_name (i := 10) sc_two_read.nd rfl (Or.inl rfl))) (fun _ _ _ _ _ => pts_nil) (fun _ _ _ _ _ => (pe_callG (ok_keeps_of T) (hr.mono (by decide)) hgu rfl T.g_keeps_of T.u_keeps_of.kp T.b_keeps_of (pa_cons (pv 0) (pa_cons (pv 8) (pa_cons (pv 10) pa_nil))))))))
    (pss_one (ps_ret (pe_tup (pa_cons pe_str (pa_cons (pv 7) (pa_cons (pv 8) (pa_cons (pe_callTy call_tuple1 rfl T.m_tuple (by decide +kernel) (pa_cons (pv 9) pa_nil)) pa_nil))))))))))))
theorem ok_column_through (T : Txt K mg) : FnG P w K mg base 4 T.a_column_through T.fd_column_through ["p", "k", "column", "pairs", "lower"] (spF K 5 F_column_through) :=
  fn_okG (k := 3) (body := B_column_through) (N := N_column_through)
  (et_seq (et_asg (ev_op (ev_op (ev_tup (ea_cons ev_int ea_nil)) ev_var os_mul) ev_var os_add) eg_name)
    (et_seq (et_asg (ev_call (ea_cons ev_var (ea_cons (ev_lc (ei_sq ev_var) (eg_tup (is := [7, 8]) rfl) (gw_tup (by decide)) eb_yes (ev_tup (ea_cons ev_var (ea_cons (ev_op (ev_op (ev_op ev_var ev_var os_ix) (ev_call (ea_cons ev_var (ea_cons ev_var (ea_cons ev_var ea_nil))) (na_cons (na_cons (na_cons na_nil)))) os_sub) ev_var os_mod) ea_nil)))) ea_nil)) (na_cons (na_cons na_nil))) eg_name)
    (et_ret (ev_op ev_var ev_var os_add))))
  T.u_column_through sc_column_through (fun cd A out s H hr hgu =>
  (pss_cons (ps_set (i := 5) sc_column_through.nd rfl (Or.inr rfl) (pe_op op_addA (pe_op op_mulA (pe_tup (pa_cons pe_int pa_nil)) (pv 1)) (pv 4)))
    (pss_cons (ps_set (i := 6) sc_column_through.nd rfl (Or.inl rfl) (pe_callG (ok_through T) (hr.mono (by decide)) hgu rfl T.g_through T.u_through.kp T.b_through (pa_cons (pv 0) (pa_cons (pe_lc (own := [("x", 7), ("row", 8)]) rfl sc_column_through.nd (pi_sq (pv 3)) (blkOk_by (N := N_column_through) (sc := defScope s_column_through) (by decide +kernel)) (fun _ _ _ _ _ => (pg_tup rfl (pgs_cons (pg_name (i := 7) sc_column_through.nd rfl (Or.inl rfl)) (pgs_cons (pg_name (i := 8) sc_column_through.nd rfl (Or.inl rfl)) pgs_nil)))) (fun _ _ _ _ _ => pts_nil) (fun _ _ _ _ _ => (pe_tup (pa_cons (pv 7) (pa_cons (pe_op op_mod (pe_op op_sub (pe_ix ix_seq (pv 8) (pv 2) (fun _ _ => rfl)) (pe_callG (ok_worth_at T) (hr.mono (by decide)) hgu rfl T.g_worth_at T.u_worth_at.kp T.b_worth_at (pa_cons (pv 0) (pa_cons (pv 5) (pa_cons (pv 7) pa_nil))))) (pv 0)) pa_nil))))) pa_nil))))
    (pss_one (ps_ret (pe_op op_addA (pv 6) (pv 4)))))))
theorem ok_is_number (T : Txt K mg) : FnG P w K mg base 1 T.a_is_number T.fd_is_number ["thing"] (spF K 1 F_is_number) :=
  fn_okG (k := 0) (body := B_is_number) (N := N_is_number)
  (et_ret (ev_and (ev_isi ev_var) (ev_not (ev_isi ev_var))))
  T.u_is_number sc_is_number (fun cd A out s H hr hgu =>
  (pss_one (ps_ret (pe_and (pe_isi rfl T.m_isinstance rfl T.m_int (by decide +kernel) (pv 0)) (pe_one (pe_not (pe_isi rfl T.m_isinstance rfl T.m_bool (by decide +kernel) (pv 0))))))))
theorem ok_is_rest (T : Txt K mg) : FnG P w K mg base 2 T.a_is_rest T.fd_is_rest ["p", "thing"] (spF K 2 F_is_rest) :=
  fn_okG (k := 1) (body := B_is_rest) (N := N_is_rest)
  (et_ret (ev_and (ev_call (ea_cons ev_var ea_nil) (na_cons na_nil)) (ev_chain ev_int ev_var ev_var os_le os_lt)))
  T.u_is_rest sc_is_rest (fun cd A out s H hr hgu =>
  (pss_one (ps_ret (pe_and (pe_callG (ok_is_number T) (hr.mono (by decide)) hgu rfl T.g_is_number T.u_is_number.kp T.b_is_number (pa_cons (pv 1) pa_nil)) (pe_one (pe_chain op_le op_lt pe_int (pv 1) (pv 0)))))))
theorem ok_is_row (T : Txt K mg) : FnG P w K mg base 3 T.a_is_row T.fd_is_row ["p", "many", "thing"] (spF K 3 F_is_row) :=
  fn_okG (k := 2) (body := B_is_row) (N := N_is_row)
  (et_seq (et_if (eb_or (eb_not (eb_B (ev_isi ev_var))) (eb_test (ev_op (ev_cb (ea_cons ev_var ea_nil) (cs_one us_len)) ev_var os_ne))) (et_ret ev_bl) et_next)
    (et_ret (ev_cb (ea_cons (ev_lc (ei_sq ev_var) eg_name (gw_name (by decide)) eb_yes (ev_call (ea_cons ev_var (ea_cons ev_var ea_nil)) (na_cons (na_cons na_nil)))) ea_nil) (cs_one us_all))))
  T.u_is_row sc_is_row (fun cd A out s H hr hgu =>
  (pss_cons (ps_if (PW.pt (pw_or (pt_not (pt_val (pe_isi rfl T.m_isinstance rfl T.m_tuple (by decide +kernel) (pv 2)))) (pw_or1 (pt_cmpR (op_neA (room64 hr)) (pe_callB call_len1 rfl T.m_len (by decide +kernel) (pa_cons (pv 2) pa_nil)) (pv 1) rfl)))) (pss_one (ps_ret pe_bl)) pss_nil)
    (pss_one (ps_ret (pe_callB (call_all1 rfl) rfl T.m_all (by decide +kernel) (pa_cons (pe_lc (own := [("rest", 3)]) rfl sc_is_row.nd (pi_sq (pv 2)) (blkOk_by (N := N_is_row) (sc := defScope s_is_row) (by decide +kernel)) (fun _ _ _ _ _ => (pg_name (i := 3) sc_is_row.nd rfl (Or.inl rfl))) (fun _ _ _ _ _ => pts_nil) (fun _ _ _ _ _ => (pe_callG (ok_is_rest T) (hr.mono (by decide)) hgu rfl T.g_is_rest T.u_is_rest.kp T.b_is_rest (pa_cons (pv 0) (pa_cons (pv 3) pa_nil))))) pa_nil))))))
theorem ok_are_rows (T : Txt K mg) : FnG P w K mg base 4 T.a_are_rows T.fd_are_rows ["p", "n", "many", "thing"] (spF K 4 F_are_rows) :=
  fn_okG (k := 3) (body := B_are_rows) (N := N_are_rows)
  (et_ret (ev_and (ev_isi ev_var) (ev_and (ev_op (ev_cb (ea_cons ev_var ea_nil) (cs_one us_len)) ev_var os_eq) (ev_cb (ea_cons (ev_lc (ei_sq ev_var) eg_name (gw_name (by decide)) eb_yes (ev_call (ea_cons ev_var (ea_cons ev_var (ea_cons ev_var ea_nil))) (na_cons (na_cons (na_cons na_nil))))) ea_nil) (cs_one us_all)))))
  T.u_are_rows sc_are_rows (fun cd A out s H hr hgu =>
  (pss_one (ps_ret (pe_and (pe_isi rfl T.m_isinstance rfl T.m_tuple (by decide +kernel) (pv 3)) (pe_and (pe_cmpR (op_eqA (room64 hr)) (pe_callB call_len1 rfl T.m_len (by decide +kernel) (pa_cons (pv 3) pa_nil)) (pv 2) rfl) (pe_one (pe_callB (call_all1 rfl) rfl T.m_all (by decide +kernel) (pa_cons (pe_lc (own := [("row", 4)]) rfl sc_are_rows.nd (pi_sq (pv 3)) (blkOk_by (N := N_are_rows) (sc := defScope s_are_rows) (by decide +kernel)) (fun _ _ _ _ _ => (pg_name (i := 4) sc_are_rows.nd rfl (Or.inl rfl))) (fun _ _ _ _ _ => pts_nil) (fun _ _ _ _ _ => (pe_callG (ok_is_row T) (hr.mono (by decide)) hgu rfl T.g_is_row T.u_is_row.kp T.b_is_row (pa_cons (pv 0) (pa_cons (pv 1) (pa_cons (pv 4) pa_nil)))))) pa_nil))))))))
theorem ok_is_table (T : Txt K mg) : FnG P w K mg base 5 T.a_is_table T.fd_is_table ["shape", "thing"] (spF K 2 F_is_table) :=
  fn_okG (k := 4) (body := B_is_table) (N := N_is_table)
  (et_seq (et_asg ev_var (eg_tup (is := [2, 3, 4, 5]) rfl))
    (et_seq (et_if (eb_not (eb_B (ev_call (ea_cons ev_var (ea_cons ev_var (ea_cons ev_var (ea_cons ev_var ea_nil)))) (na_cons (na_cons (na_cons (na_cons na_nil))))))) (et_ret ev_bl) et_next)
    (et_seq (et_if (eb_B (ev_cb (ea_cons (ev_lc2 (ei_r2 (ea_cons ev_var (ea_cons ev_var ea_nil))) eg_name (gw_name (by decide)) eb_yes (ei_r2 (ea_cons ev_var (ea_cons ev_var ea_nil))) eg_name (gw_name (by decide)) eb_yes (ev_op (ev_op ev_var ev_var os_ix) ev_var os_ix)) ea_nil) (cs_one us_any))) (et_ret ev_bl) et_next)
    (et_ret (ev_cb (ea_cons (ev_lc2 (ei_r1 (ea_cons ev_var ea_nil)) eg_name (gw_name (by decide)) eb_yes (ei_r1 (ea_cons ev_var ea_nil)) eg_name (gw_name (by decide)) eb_yes (ev_op (ev_op (ev_op ev_var ev_var os_ix) ev_var os_ix) (ev_op (ev_op ev_var ev_var os_ix) ev_var os_ix) os_eq)) ea_nil) (cs_one us_all))))))
  T.u_is_table sc_is_table (fun cd A out s H hr hgu =>
  (pss_cons (ps_asg (pv 0) (pg_tup rfl (pgs_cons (pg_name (i := 2) sc_is_table.nd rfl (Or.inl rfl)) (pgs_cons (pg_name (i := 3) sc_is_table.nd rfl (Or.inr rfl)) (pgs_cons (pg_name (i := 4) sc_is_table.nd rfl (Or.inr rfl)) (pgs_cons (pg_name (i := 5) sc_is_table.nd rfl (Or.inl rfl)) pgs_nil))))))
    (pss_cons (ps_if (pt_not (pt_val (pe_callG (ok_are_rows T) (hr.mono (by decide)) hgu rfl T.g_are_rows T.u_are_rows.kp T.b_are_rows (pa_cons (pv 2) (pa_cons (pv 4) (pa_cons (pv 4) (pa_cons (pv 1) pa_nil))))))) (pss_one (ps_ret pe_bl)) pss_nil)
    (pss_cons (ps_if (pt_val (pe_callB (call_any1 rfl) rfl T.m_any (by decide +kernel) (pa_cons (pe_lc2 (own := [("row", 6), ("column", 7)]) (vs1 := [7]) rfl sc_is_table.nd (pi_range2 rfl T.m_range (pa_cons (pv 3) (pa_cons (pv 4) pa_nil))) (blkOk_by (N := N_is_table) (sc := defScope s_is_table) (by decide +kernel)) (by decide) (fun _ _ _ _ _ => (pg_name (i := 6) sc_is_table.nd rfl (Or.inl rfl))) (fun _ _ _ _ _ => pts_nil) (fun _ _ _ _ _ => (pi_range2 rfl T.m_range (pa_cons (pv 3) (pa_cons (pv 4) pa_nil)))) (fun _ _ _ _ _ => (pg_name (i := 7) sc_is_table.nd rfl (Or.inl rfl))) (fun _ _ _ _ _ => pts_nil) (fun _ _ _ _ _ => (pe_ix ix_seq (pe_ix ix_seq (pv 1) (pv 6) (fun _ _ => rfl)) (pv 7) (fun _ _ => rfl)))) pa_nil))) (pss_one (ps_ret pe_bl)) pss_nil)
    (pss_one (ps_ret (pe_callB (call_all1 rfl) rfl T.m_all (by decide +kernel) (pa_cons (pe_lc2 (own := [("row", 6), ("column", 7)]) (vs1 := [7]) rfl sc_is_table.nd (pi_range1 rfl T.m_range (pa_cons (pv 4) pa_nil)) (blkOk_by (N := N_is_table) (sc := defScope s_is_table) (by decide +kernel)) (by decide) (fun _ _ _ _ _ => (pg_name (i := 6) sc_is_table.nd rfl (Or.inl rfl))) (fun _ _ _ _ _ => pts_nil) (fun _ _ _ _ _ => (pi_range1 rfl T.m_range (pa_cons (pv 6) pa_nil))) (fun _ _ _ _ _ => (pg_name (i := 7) sc_is_table.nd rfl (Or.inl rfl))) (fun _ _ _ _ _ => pts_nil) (fun _ _ _ _ _ => (pe_cmpR (op_eqA (room64 hr)) (pe_ix ix_seq (pe_ix ix_seq (pv 1) (pv 6) (fun _ _ => rfl)) (pv 7) (fun _ _ => rfl)) (pe_ix ix_seq (pe_ix ix_seq (pv 1) (pv 7) (fun _ _ => rfl)) (pv 6) (fun _ _ => rfl)) rfl))) pa_nil))))))))
theorem ok_read_back (T : Txt K mg) : FnG P w K mg base 6 T.a_read_back T.fd_read_back ["shape", "pairs"] (spF K 2 F_read_back) :=
  fn_okG (k := 5) (body := B_read_back) (N := N_read_back)
  (et_seq (et_asg ev_var (eg_tup (is := [2, 3, 4, 5]) rfl))
    (et_seq (et_if (eb_test (ev_op (ev_cb (ea_cons ev_var ea_nil) (cs_one us_len)) ev_var os_ne)) (et_ret ev_non) et_next)
    (et_seq (et_asg (ev_lcN (ei_r1 (ea_cons ev_var ea_nil)) eg_name (gw_name (by decide)) eb_yes (ev_tup ea_nil)) eg_name)
    (et_seq (et_frz (et_for (ei_rr1 ev_var) eg_name (et_seq (et_asg (ev_if (eb_test (ev_op ev_var ev_var os_lt)) (ev_cb (ea_cons (ev_lc (ei_r2 (ea_cons ev_var (ea_cons ev_var ea_nil))) eg_name (gw_name (by decide)) eb_yes (ev_op (ev_op ev_var ev_var os_ix) ev_var os_ix)) ea_nil) (cs_one us_tuple)) (ev_op (ev_tup (ea_cons ev_int ea_nil)) (ev_op ev_var ev_var os_sub) os_mul)) eg_name)
    (et_asg (ev_call (ea_cons ev_var (ea_cons ev_var (ea_cons ev_var (ea_cons ev_var (ea_cons ev_var ea_nil))))) (na_cons (na_cons (na_cons (na_cons (na_cons na_nil)))))) (eg_store ev_var ev_var)))))
    (et_seq (et_asg (ev_cb (ea_cons ev_var ea_nil) (cs_one us_tuple)) eg_name)
    (et_ret (ev_if (eb_B (ev_call (ea_cons ev_var (ea_cons ev_var ea_nil)) (na_cons (na_cons na_nil)))) ev_var ev_non)))))))
  T.u_read_back sc_read_back (fun cd A out s H hr hgu =>
  (pss_cons (ps_asg (pv 0) (pg_tup rfl (pgs_cons (pg_name (i := 2) sc_read_back.nd rfl (Or.inl rfl)) (pgs_cons (pg_name (i := 3) sc_read_back.nd rfl (Or.inl rfl)) (pgs_cons (pg_name (i := 4) sc_read_back.nd rfl (Or.inl rfl)) (pgs_cons (pg_name (i := 5) sc_read_back.nd rfl (Or.inl rfl)) pgs_nil))))))
    (pss_cons (ps_if (pt_cmpR (op_neA (room64 hr)) (pe_callB call_len1 rfl T.m_len (by decide +kernel) (pa_cons (pv 1) pa_nil)) (pv 3) rfl) (pss_one (ps_ret pe_non)) pss_nil)
    (pss_cons (ps_set (i := 6) sc_read_back.nd rfl (Or.inr rfl) (pe_lc (own := [("column", 7)]) rfl sc_read_back.nd (pi_range1 rfl T.m_range (pa_cons (pv 4) pa_nil)) (blkOk_by (N := N_read_back) (sc := defScope s_read_back) (by decide +kernel)) (fun _ _ _ _ _ => (pg_name (i := 7) sc_read_back.nd rfl (Or.inl rfl))) (fun _ _ _ _ _ => pts_nil) (fun _ _ _ _ _ => (pe_tup pa_nil))))
    (pss_cons (ps_for PassesOwn.never rfl (pi_revR rfl T.m_reversed (prg_1 rfl T.m_range (pv 4))) (pg_name (i := 7) sc_read_back.nd rfl (Or.inr rfl)) (pss_cons (ps_set (i := 8) sc_read_back.nd rfl (Or.inl rfl) (pe_ifExp (pt_cmpR op_lt (pv 7) (pv 3) rfl) (pe_callTy call_tuple1 rfl T.m_tuple (by decide +kernel) (pa_cons (pe_lc (own := [("row", 10)]) rfl sc_read_back.nd (pi_range2 rfl T.m_range (pa_cons (pv 3) (pa_cons (pv 4) pa_nil))) (blkOk_by (N := N_read_back) (sc := defScope s_read_back) (by decide +kernel)) (fun _ _ _ _ _ => (pg_name (i := 10) sc_read_back.nd rfl (Or.inl rfl))) (fun _ _ _ _ _ => pts_nil) (fun _ _ _ _ _ => (pe_ix ix_seq (pe_ix ix_seq (pv 6) (pv 10) (fun _ _ => rfl)) (pv 7) (fun _ _ => rfl)))) pa_nil)) (pe_op op_mulA (pe_tup (pa_cons pe_int pa_nil)) (pe_op op_sub (pv 4) (pv 3)))))
    (pss_one (ps_asg (pe_callG (ok_column_through T) (hr.mono (by decide)) hgu rfl T.g_column_through T.u_column_through.kp T.b_column_through (pa_cons (pv 2) (pa_cons (pv 3) (pa_cons (pv 7) (pa_cons (pv 1) (pa_cons (pv 8) pa_nil)))))) (pg_sub (pv 6) (pv 7) set_list)))))
    (pss_cons (ps_set (i := 9) sc_read_back.nd rfl (Or.inl rfl) (pe_callTy call_tuple1 rfl T.m_tuple (by decide +kernel) (pa_cons (pv 6) pa_nil)))
    (pss_one (ps_ret (pe_ifExp (pt_val (pe_callG (ok_is_table T) (hr.mono (by decide)) hgu rfl T.g_is_table T.u_is_table.kp T.b_is_table (pa_cons (pv 0) (pa_cons (pv 9) pa_nil)))) (pv 9) pe_non)))))))))
theorem ok_keeping_others (T : Txt K mg) : FnG P w K mg base 3 T.a_keeping_others T.fd_keeping_others ["shape", "table", "pairs"] (spF K 3 F_keeping_others) :=
  fn_okG (k := 2) (body := B_keeping_others) (N := N_keeping_others)
  (et_ret (ev_cb (ea_cons (ev_lc (ei_sq ev_var) (eg_tup (is := [3, 4]) rfl) (gw_tup (by decide)) (eb_test (ev_op (ev_call (ea_cons ev_var (ea_cons ev_var (ea_cons ev_var ea_nil))) (na_cons (na_cons (na_cons na_nil)))) (ev_cb (ea_cons ev_var ea_nil) (cs_one us_tuple)) os_ne)) ev_var) ea_nil) (cs_one us_tuple)))
  T.u_keeping_others sc_keeping_others (fun cd A out s H hr hgu =>
  (pss_one (ps_ret (pe_callTy call_tuple1 rfl T.m_tuple (by decide +kernel) (pa_cons (pe_lc (own := [("x", 3), ("row", 4)]) rfl sc_keeping_others.nd (pi_sq (pv 2)) (blkOk_by (N := N_keeping_others) (sc := defScope s_keeping_others) (by decide +kernel)) (fun _ _ _ _ _ => (pg_tup rfl (pgs_cons (pg_name (i := 3) sc_keeping_others.nd rfl (Or.inl rfl)) (pgs_cons (pg_name (i := 4) sc_keeping_others.nd rfl (Or.inl rfl)) pgs_nil)))) (fun _ _ _ _ _ => (pts_one (pt_cmpR (op_neA (room64 hr)) (pe_callG (ok_keeps_of T) (hr.mono (by decide)) hgu rfl T.g_keeps_of T.u_keeps_of.kp T.b_keeps_of (pa_cons (pv 0) (pa_cons (pv 1) (pa_cons (pv 3) pa_nil)))) (pe_callTy call_tuple1 rfl T.m_tuple (by decide +kernel) (pa_cons (pv 4) pa_nil)) rfl))) (fun _ _ _ _ _ => (pv 3))) pa_nil)))))
theorem ok_read_right (T : Txt K mg) : FnG P w K mg base 12 T.a_read_right T.fd_read_right ["shape", "pairs"] (spF K 2 F_read_right) :=
  fn_okG (k := 11) (body := B_read_right) (N := N_read_right)
  (et_seq (et_asg (ev_op ev_var ev_int os_ix) eg_name)
    (et_seq (et_asg (ev_op (ev_op (ev_cb (ea_cons ev_var ea_nil) (cs_one us_len)) ev_var os_sub) ev_int os_div) eg_name)
    (et_seq (et_for (ei_sq (ev_call (ea_cons ev_var (ea_cons ev_var ea_nil)) (na_cons (na_cons na_nil)))) eg_name (et_seq (et_asg (ev_call (ea_cons ev_var (ea_cons ev_var ea_nil)) (na_cons (na_cons na_nil))) eg_name)
    (et_if (eb_test (ev_op ev_var ev_non os_notN)) (et_seq (et_asg (ev_call (ea_cons ev_var (ea_cons ev_var (ea_cons ev_var ea_nil))) (na_cons (na_cons (na_cons na_nil)))) eg_name)
    (et_if (eb_test (ev_op (ev_cb (ea_cons ev_var ea_nil) (cs_one us_len)) ev_var os_le)) (et_ret (ev_tup (ea_cons ev_var (ea_cons ev_var ea_nil)))) et_next)) et_next)))
    (et_ret ev_non))))
  T.u_read_right sc_read_right (fun cd A out s H hr hgu =>
  (pss_cons (ps_set (i := 2) sc_read_right.nd rfl (Or.inl rfl) (pe_ix ix_seq (pv 0) pe_int (fun _ _ => rfl)))
    (pss_cons (ps_set (i := 3) sc_read_right.nd rfl (Or.inl rfl) (pe_op op_fdivW (pe_op op_sub (pe_callB call_len1 rfl T.m_len (by decide +kernel) (pa_cons (pv 1) pa_nil)) (pv 2)) pe_int))
    (pss_cons (ps_for PassesOwn.never rfl (pi_sq (pe_callG (ok_groups_of T 10) (hr.mono (by decide)) hgu rfl T.g_groups_of T.u_groups_of.kp T.b_groups_of (pa_cons (pv 1) (pa_cons (pv 2) pa_nil)))) (pg_name (i := 4) sc_read_right.nd rfl (Or.inl rfl)) (pss_cons (ps_set (i := 5) sc_read_right.nd rfl (Or.inl rfl) (pe_callG (ok_read_back T) (hr.mono (by decide)) hgu rfl T.g_read_back T.u_read_back.kp T.b_read_back (pa_cons (pv 0) (pa_cons (pv 4) pa_nil))))
    (pss_one (ps_if (pt_cmpR op_notN (pv 5) pe_non rfl) (pss_cons (ps_set (i := 6) sc_read_right.nd rfl (Or.inl rfl) (pe_callG (ok_keeping_others T) (hr.mono (by decide)) hgu rfl T.g_keeping_others T.u_keeping_others.kp T.b_keeping_others (pa_cons (pv 0) (pa_cons (pv 5) (pa_cons (pv 1) pa_nil)))))
    (pss_one (ps_if (pt_cmpR op_le (pe_callB call_len1 rfl T.m_len (by decide +kernel) (pa_cons (pv 6) pa_nil)) (pv 3) rfl) (pss_one (ps_ret (pe_tup (pa_cons (pv 5) (pa_cons (pv 6) pa_nil))))) pss_nil))) pss_nil))))
    (pss_one (ps_ret pe_non))))))
theorem ok_xkept (T : Txt K mg) : FnG P w K mg base 2 T.a_xkept T.fd_xkept ["_law_p", "_law_rows", "_law_x"] (spF K 3 F_xkept) :=
  fn_okG (k := 1) (body := B_xkept) (N := N_xkept)
  (et_seq (et_asg (ev_new ea_nil) eg_name)
    (et_seq (et_frz (et_for (ei_r1 (ea_cons (ev_cb (ea_cons ev_var ea_nil) (cs_one us_len)) ea_nil)) eg_name (et_app ev_var (ev_call (ea_cons ev_var (ea_cons (ev_lc (ei_sq ev_var) eg_name (gw_name (by decide)) eb_yes (ev_op ev_var ev_var os_ix)) (ea_cons ev_var ea_nil))) (na_cons (na_cons (na_cons na_nil)))))))
    (et_ret (ev_cb (ea_cons ev_var ea_nil) (cs_one us_tuple)))))
  T.u_xkept sc_xkept (fun cd A out s H hr hgu =>
  (pss_cons (ps_set (i := 3) sc_xkept.nd rfl (Or.inl rfl) (pe_lst pa_nil))
    (pss_cons (ps_for PassesOwn.never rfl (pi_range1 rfl T.m_range (pa_cons (pe_callB call_len1 rfl T.m_len (by decide +kernel) (pa_cons (pv 1) pa_nil)) pa_nil)) (pg_name (i := 4) sc_xkept.nd rfl (Or.inr rfl)) (pss_one (ps_expr (pe_bm PySem.F.plainAttrs_list PySem.F.slot_list_append PySem.F.type_list_append mt_append (pv 3) (pa_cons (pe_callG (ok_xvalue T) (hr.mono (by decide)) hgu rfl T.g_xvalue T.u_xvalue.kp T.b_xvalue (pa_cons (pv 0) (pa_cons (pe_lc (own := [("_law_row", 5)]) rfl sc_xkept.nd (pi_sq (pv 1)) (blkOk_by (N := N_xkept) (sc := defScope s_xkept) (by decide +kernel)) (fun _ _ _ _ _ => (pg_name (i := 5) sc_xkept.nd rfl (Or.inl rfl))) (fun _ _ _ _ _ => pts_nil) (fun _ _ _ _ _ => (pe_ix ix_seq (pv 5) (pv 4) (fun _ _ => rfl)))) (pa_cons (pv 2) pa_nil)))) pa_nil)))))
    (pss_one (ps_ret (pe_callTy call_tuple1 rfl T.m_tuple (by decide +kernel) (pa_cons (pv 3) pa_nil)))))))
theorem ok_xtables_right (T : Txt K mg) : FnG P w K mg base 13 T.a_xtables_right T.fd_xtables_right ["_law_drawn"] (spF K 1 F_xtables_right) :=
  fn_okG (k := 12) (body := B_xtables_right) (N := N_xtables_right)
  (et_seq (et_asg (ev_call (ea_cons ev_var (ea_cons ev_int ea_nil)) (na_cons (na_cons na_nil))) eg_name)
    (et_seq (et_asg ev_var (eg_tup (is := [2, 3, 4, 5]) rfl))
    (et_seq (et_asg (ev_op ev_int (ev_call (ea_cons ev_var (ea_cons (ev_op (ev_op ev_int ev_var os_sub) ev_int os_div) ea_nil)) (na_cons (na_cons na_nil))) os_add) eg_name)
    (et_seq (et_asg (ev_call (ea_cons ev_var (ea_cons ev_var (ea_cons (ev_op (ev_op ev_var (ev_op ev_int ev_var os_mul) os_add) ev_int os_sub) ea_nil))) (na_cons (na_cons (na_cons na_nil)))) eg_name)
    (et_seq (et_asg (ev_call (ea_cons ev_var (ea_cons ev_var (ea_cons ev_var ea_nil))) (na_cons (na_cons (na_cons na_nil)))) (eg_tup (is := [8, 9, 10, 11]) rfl))
    (et_seq (et_asg (ev_call (ea_cons ev_var (ea_cons ev_var (ea_cons ev_var ea_nil))) (na_cons (na_cons (na_cons na_nil)))) eg_name)
    (et_seq (et_for (ei_sq (ev_tup (ea_cons ev_var (ea_cons ev_var ea_nil)))) eg_name (et_seq (et_asg (ev_cb (ea_cons (ev_cb (ea_cons (ev_op (ev_zpL (ea_cons ev_var (ea_cons ev_var ea_nil))) (ev_lst (ea_cons (ev_tup (ea_cons ev_var (ea_cons (ev_call (ea_cons ev_var (ea_cons ev_var (ea_cons ev_var ea_nil))) (na_cons (na_cons (na_cons na_nil)))) ea_nil))) ea_nil)) os_add) ea_nil) (cs_one us_sortK)) ea_nil) (cs_one us_tuple)) eg_name)
    (et_seq (et_asg (ev_cb (ea_cons (ev_lc (ei_sq ev_var) (eg_tup (is := [16, 17]) rfl) (gw_tup (by decide)) (eb_test (ev_op (ev_call (ea_cons ev_var (ea_cons ev_var (ea_cons ev_var ea_nil))) (na_cons (na_cons (na_cons na_nil)))) ev_var os_ne)) ev_var) ea_nil) (cs_one us_tuple)) eg_name)
    (et_if (eb_test (ev_op (ev_cb (ea_cons (ev_call (ea_cons ev_var (ea_cons ev_var ea_nil)) (na_cons (na_cons na_nil))) ea_nil) (cs_one us_repr)) (ev_cb (ea_cons (ev_tup (ea_cons ev_var (ea_cons ev_var ea_nil))) ea_nil) (cs_one us_repr)) os_ne)) (et_ret ev_bl) et_next))))
    (et_ret ev_bl))))))))
  T.u_xtables_right sc_xtables_right (fun cd A out s H hr hgu =>
  (pss_cons (ps_set (i := 1) sc_xtables_right.nd rfl (Or.inl rfl) (pe_callG (ok_xshape T) (hr.mono (by decide)) hgu rfl T.g_xshape T.u_xshape.kp T.b_xshape (pa_cons (pv 0) (pa_cons pe_int pa_nil))))
    (pss_cons (ps_asg (pv 1) (pg_tup rfl (pgs_cons (pg_name (i := 2) sc_xtables_right.nd rfl (Or.inr rfl)) (pgs_cons (pg_name (i := 3) sc_xtables_right.nd rfl (Or.inl rfl)) (pgs_cons (pg_name (i := 4) sc_xtables_right.nd rfl (Or.inl rfl)) (pgs_cons (pg_name (i := 5) sc_xtables_right.nd rfl (Or.inl rfl)) pgs_nil))))))
    (pss_cons (ps_set (i := 6) sc_xtables_right.nd rfl (Or.inl rfl) (pe_op op_addA pe_int (pe_callG (ok_xnext T) (hr.mono (by decide)) hgu rfl T.g_xnext T.u_xnext.kp T.b_xnext (pa_cons (pv 0) (pa_cons (pe_op op_fdivW (pe_op op_sub pe_int (pv 3)) pe_int) pa_nil)))))
    (pss_cons (ps_set (i := 7) sc_xtables_right.nd rfl (Or.inl rfl) (pe_callG (ok_xxs T) (hr.mono (by decide)) hgu rfl T.g_xxs T.u_xxs.kp T.b_xxs (pa_cons (pv 0) (pa_cons (pv 2) (pa_cons (pe_op op_sub (pe_op op_addA (pv 3) (pe_op op_mulA pe_int (pv 6))) pe_int) pa_nil)))))
    (pss_cons (ps_asg (pe_callG (ok_two_read T) (hr.mono (by decide)) hgu rfl T.g_two_read T.u_two_read.kp T.b_two_read (pa_cons (pv 1) (pa_cons (pv 7) (pa_cons (pv 6) pa_nil)))) (pg_tup rfl (pgs_cons (pg_name (i := 8) sc_xtables_right.nd rfl (Or.inl rfl)) (pgs_cons (pg_name (i := 9) sc_xtables_right.nd rfl (Or.inl rfl)) (pgs_cons (pg_name (i := 10) sc_xtables_right.nd rfl (Or.inl rfl)) (pgs_cons (pg_name (i := 11) sc_xtables_right.nd rfl (Or.inl rfl)) pgs_nil))))))
    (pss_cons (ps_set (i := 12) sc_xtables_right.nd rfl (Or.inl rfl) (pe_callG (ok_xone_more T) (hr.mono (by decide)) hgu rfl T.g_xone_more T.u_xone_more.kp T.b_xone_more (pa_cons (pv 0) (pa_cons (pv 2) (pa_cons (pv 7) pa_nil)))))
    (pss_cons (ps_for PassesOwn.never rfl (pi_sq (pe_tup (pa_cons (pv 9) (pa_cons (pv 10) pa_nil)))) (pg_name (i := 13) sc_xtables_right.nd rfl (Or.inr rfl)) (pss_cons (ps_set (i := 14) sc_xtables_right.nd rfl (Or.inl rfl) (pe_callTy call_tuple1 rfl T.m_tuple (by decide +kernel) (pa_cons (pe_callB call_sortK rfl T.m_sorted (by decide +kernel) (pa_cons (pe_op op_addA (pe_listZip rfl rfl T.m_list rfl T.m_zip (pa_cons (pv 7) (pa_cons (pv 11) pa_nil))) (pe_lst (pa_cons (pe_tup (pa_cons (pv 12) (pa_cons (pe_callG (ok_xkept T) (hr.mono (by decide)) hgu rfl T.g_xkept T.u_xkept.kp T.b_xkept (pa_cons (pv 2) (pa_cons (pv 13) (pa_cons (pv 12) pa_nil)))) pa_nil))) pa_nil))) pa_nil)) pa_nil)))
    (pss_cons (ps_set (i := 15) sc_xtables_right.nd rfl (Or.inl rfl) (pe_callTy call_tuple1 rfl T.m_tuple (by decide +kernel) (pa_cons (pe_lc (own := [("_law_y", 16), ("_law_row", 17)]) rfl sc_xtables_right.nd (pi_sq (pv 14)) (blkOk_by (N := N_xtables_right) (sc := defScope s_xtables_right) (by decide +kernel)) (fun _ _ _ _ _ => (pg_tup rfl (pgs_cons (pg_name (i := 16) sc_xtables_right.nd rfl (Or.inl rfl)) (pgs_cons (pg_name (i := 17) sc_xtables_right.nd rfl (Or.inl rfl)) pgs_nil)))) (fun _ _ _ _ _ => (pts_one (pt_cmpR (op_neA (room64 hr)) (pe_callG (ok_xkept T) (hr.mono (by decide)) hgu rfl T.g_xkept T.u_xkept.kp T.b_xkept (pa_cons (pv 2) (pa_cons (pv 13) (pa_cons (pv 16) pa_nil)))) (pv 17) rfl))) (fun _ _ _ _ _ => (pv 16))) pa_nil)))
    (pss_one (ps_if (pt_cmpR (op_neA (room64 hr)) (pe_callB (call_repr1 hgu hr) rfl T.m_repr (by decide +kernel) (pa_cons (pe_callG (ok_read_right T) (hr.mono (by decide)) hgu rfl T.g_read_right T.u_read_right.kp T.b_read_right (pa_cons (pv 1) (pa_cons (pv 14) pa_nil))) pa_nil)) (pe_callB (call_repr1 hgu hr) rfl T.m_repr (by decide +kernel) (pa_cons (pe_tup (pa_cons (pv 13) (pa_cons (pv 15) pa_nil))) pa_nil)) rfl) (pss_one (ps_ret pe_bl)) pss_nil)))))
    (pss_one (ps_ret pe_bl))))))))))
theorem ok_law (T : Txt K mg) : FnG P w K mg base 14 T.a_law T.fd_law ["_law_script"] (spF K 1 F_law) :=
  fn_okG (k := 13) (body := B_law) (N := N_law)
  (et_seq (et_asg (ev_call (ea_cons ev_var ea_nil) (na_cons na_nil)) eg_name)
    (et_seq (et_for (ei_r1 (ea_cons ev_int ea_nil)) eg_name (et_if (eb_or (eb_not (eb_B (ev_call (ea_cons ev_var ea_nil) (na_cons na_nil)))) (eb_not (eb_B (ev_call (ea_cons ev_var ea_nil) (na_cons na_nil))))) (et_ret ev_bl) et_next))
    (et_ret ev_bl)))
  T.u_law sc_law (fun cd A out s H hr hgu =>
  (pss_cons (ps_set (i := 1) sc_law.nd rfl (Or.inl rfl) (pe_callG (ok_xdraws T) (hr.mono (by decide)) hgu rfl T.g_xdraws T.u_xdraws.kp T.b_xdraws (pa_cons (pv 0) pa_nil)))
    (pss_cons (ps_for PassesOwn.never rfl (pi_range1 rfl T.m_range (pa_cons pe_int pa_nil)) (pg_name (i := 2) sc_law.nd rfl (Or.inl rfl)) (pss_one (ps_if (PW.pt (pw_or (pt_not (pt_val (pe_callG (ok_xrows_right T) (hr.mono (by decide)) hgu rfl T.g_xrows_right T.u_xrows_right.kp T.b_xrows_right (pa_cons (pv 1) pa_nil)))) (pw_or1 (pt_not (pt_val (pe_callG (ok_xtables_right T) (hr.mono (by decide)) hgu rfl T.g_xtables_right T.u_xtables_right.kp T.b_xtables_right (pa_cons (pv 1) pa_nil))))))) (pss_one (ps_ret pe_bl)) pss_nil)))
    (pss_one (ps_ret pe_bl)))))
end
/-! ### the end -/
theorem all_mk {l : PySem.W.OpenLaw} {w : World} {K : PySem.W.Frag} {h : Heap} {mg : Str → Option Value} {fa : Addr} (X : K.In h) (G : h.Ns mainGlobals mg) (hfa : mg "law" = some (.ref fa))
    {f0 : Addr} {od0 an0 : Option Addr} {sl0 : Array (Option Value)} {oc0 kV0 dc0 pm0 cd0 ct0 : Value}
    (a0 : PySem.W.nsIn K mainGlobals "_law_draws" = some (some (.ref f0))) (l0 : K.lookup f0 = some ⟨oc0, od0, .func (PySem.W.fnOf "_law_draws" "_law_draws" (defArgs s_xdraws) (defBody s_xdraws) (defScope s_xdraws) .none kV0 dc0 pm0 an0 cd0 ct0), sl0⟩) (c0 : PySem.W.codeIn K cd0 "_law_draws" = true) (k0 : PySem.W.keepIn K (.ref f0) = true)
{f1 : Addr} {od1 an1 : Option Addr} {sl1 : Array (Option Value)} {oc1 kV1 dc1 pm1 cd1 ct1 : Value}
    (a1 : PySem.W.nsIn K mainGlobals "_law_next" = some (some (.ref f1))) (l1 : K.lookup f1 = some ⟨oc1, od1, .func (PySem.W.fnOf "_law_next" "_law_next" (defArgs s_xnext) (defBody s_xnext) (defScope s_xnext) .none kV1 dc1 pm1 an1 cd1 ct1), sl1⟩) (c1 : PySem.W.codeIn K cd1 "_law_next" = true) (k1 : PySem.W.keepIn K (.ref f1) = true)
{f2 : Addr} {od2 an2 : Option Addr} {sl2 : Array (Option Value)} {oc2 kV2 dc2 pm2 cd2 ct2 : Value}
    (a2 : PySem.W.nsIn K mainGlobals "_law_prime" = some (some (.ref f2))) (l2 : K.lookup f2 = some ⟨oc2, od2, .func (PySem.W.fnOf "_law_prime" "_law_prime" (defArgs s_xprime) (defBody s_xprime) (defScope s_xprime) .none kV2 dc2 pm2 an2 cd2 ct2), sl2⟩) (c2 : PySem.W.codeIn K cd2 "_law_prime" = true) (k2 : PySem.W.keepIn K (.ref f2) = true)
{f3 : Addr} {od3 an3 : Option Addr} {sl3 : Array (Option Value)} {oc3 kV3 dc3 pm3 cd3 ct3 : Value}
    (a3 : PySem.W.nsIn K mainGlobals "_law_xs" = some (some (.ref f3))) (l3 : K.lookup f3 = some ⟨oc3, od3, .func (PySem.W.fnOf "_law_xs" "_law_xs" (defArgs s_xxs) (defBody s_xxs) (defScope s_xxs) .none kV3 dc3 pm3 an3 cd3 ct3), sl3⟩) (c3 : PySem.W.codeIn K cd3 "_law_xs" = true) (k3 : PySem.W.keepIn K (.ref f3) = true)
{f4 : Addr} {od4 an4 : Option Addr} {sl4 : Array (Option Value)} {oc4 kV4 dc4 pm4 cd4 ct4 : Value}
    (a4 : PySem.W.nsIn K mainGlobals "fitting_many" = some (some (.ref f4))) (l4 : K.lookup f4 = some ⟨oc4, od4, .func (PySem.W.fnOf "fitting_many" "fitting_many" (defArgs s_fitting_many) (defBody s_fitting_many) (defScope s_fitting_many) .none kV4 dc4 pm4 an4 cd4 ct4), sl4⟩) (c4 : PySem.W.codeIn K cd4 "fitting_many" = true) (k4 : PySem.W.keepIn K (.ref f4) = true)
{f5 : Addr} {od5 an5 : Option Addr} {sl5 : Array (Option Value)} {oc5 kV5 dc5 pm5 cd5 ct5 : Value}
    (a5 : PySem.W.nsIn K mainGlobals "with_multiple" = some (some (.ref f5))) (l5 : K.lookup f5 = some ⟨oc5, od5, .func (PySem.W.fnOf "with_multiple" "with_multiple" (defArgs s_with_multiple) (defBody s_with_multiple) (defScope s_with_multiple) .none kV5 dc5 pm5 an5 cd5 ct5), sl5⟩) (c5 : PySem.W.codeIn K cd5 "with_multiple" = true) (k5 : PySem.W.keepIn K (.ref f5) = true)
{f6 : Addr} {od6 an6 : Option Addr} {sl6 : Array (Option Value)} {oc6 kV6 dc6 pm6 cd6 ct6 : Value}
    (a6 : PySem.W.nsIn K mainGlobals "with_nought_at" = some (some (.ref f6))) (l6 : K.lookup f6 = some ⟨oc6, od6, .func (PySem.W.fnOf "with_nought_at" "with_nought_at" (defArgs s_with_nought_at) (defBody s_with_nought_at) (defScope s_with_nought_at) .none kV6 dc6 pm6 an6 cd6 ct6), sl6⟩) (c6 : PySem.W.codeIn K cd6 "with_nought_at" = true) (k6 : PySem.W.keepIn K (.ref f6) = true)
{f7 : Addr} {od7 an7 : Option Addr} {sl7 : Array (Option Value)} {oc7 kV7 dc7 pm7 cd7 ct7 : Value}
    (a7 : PySem.W.nsIn K mainGlobals "worth_at" = some (some (.ref f7))) (l7 : K.lookup f7 = some ⟨oc7, od7, .func (PySem.W.fnOf "worth_at" "worth_at" (defArgs s_worth_at) (defBody s_worth_at) (defScope s_worth_at) .none kV7 dc7 pm7 an7 cd7 ct7), sl7⟩) (c7 : PySem.W.codeIn K cd7 "worth_at" = true) (k7 : PySem.W.keepIn K (.ref f7) = true)
{f8 : Addr} {od8 an8 : Option Addr} {sl8 : Array (Option Value)} {oc8 kV8 dc8 pm8 cd8 ct8 : Value}
    (a8 : PySem.W.nsIn K mainGlobals "two_fitting" = some (some (.ref f8))) (l8 : K.lookup f8 = some ⟨oc8, od8, .func (PySem.W.fnOf "two_fitting" "two_fitting" (defArgs s_two_fitting) (defBody s_two_fitting) (defScope s_two_fitting) .none kV8 dc8 pm8 an8 cd8 ct8), sl8⟩) (c8 : PySem.W.codeIn K cd8 "two_fitting" = true) (k8 : PySem.W.keepIn K (.ref f8) = true)
{f9 : Addr} {od9 an9 : Option Addr} {sl9 : Array (Option Value)} {oc9 kV9 dc9 pm9 cd9 ct9 : Value}
    (a9 : PySem.W.nsIn K mainGlobals "_law_one_more" = some (some (.ref f9))) (l9 : K.lookup f9 = some ⟨oc9, od9, .func (PySem.W.fnOf "_law_one_more" "_law_one_more" (defArgs s_xone_more) (defBody s_xone_more) (defScope s_xone_more) .none kV9 dc9 pm9 an9 cd9 ct9), sl9⟩) (c9 : PySem.W.codeIn K cd9 "_law_one_more" = true) (k9 : PySem.W.keepIn K (.ref f9) = true)
{f10 : Addr} {od10 an10 : Option Addr} {sl10 : Array (Option Value)} {oc10 kV10 dc10 pm10 cd10 ct10 : Value}
    (a10 : PySem.W.nsIn K mainGlobals "groups_of" = some (some (.ref f10))) (l10 : K.lookup f10 = some ⟨oc10, od10, .func (PySem.W.fnOf "groups_of" "groups_of" (defArgs s_groups_of) (defBody s_groups_of) (defScope s_groups_of) .none kV10 dc10 pm10 an10 cd10 ct10), sl10⟩) (c10 : PySem.W.codeIn K cd10 "groups_of" = true) (k10 : PySem.W.keepIn K (.ref f10) = true)
{f11 : Addr} {od11 an11 : Option Addr} {sl11 : Array (Option Value)} {oc11 kV11 dc11 pm11 cd11 ct11 : Value}
    (a11 : PySem.W.nsIn K mainGlobals "contrary" = some (some (.ref f11))) (l11 : K.lookup f11 = some ⟨oc11, od11, .func (PySem.W.fnOf "contrary" "contrary" (defArgs s_contrary) (defBody s_contrary) (defScope s_contrary) .none kV11 dc11 pm11 an11 cd11 ct11), sl11⟩) (c11 : PySem.W.codeIn K cd11 "contrary" = true) (k11 : PySem.W.keepIn K (.ref f11) = true)
{f12 : Addr} {od12 an12 : Option Addr} {sl12 : Array (Option Value)} {oc12 kV12 dc12 pm12 cd12 ct12 : Value}
    (a12 : PySem.W.nsIn K mainGlobals "through" = some (some (.ref f12))) (l12 : K.lookup f12 = some ⟨oc12, od12, .func (PySem.W.fnOf "through" "through" (defArgs s_through) (defBody s_through) (defScope s_through) .none kV12 dc12 pm12 an12 cd12 ct12), sl12⟩) (c12 : PySem.W.codeIn K cd12 "through" = true) (k12 : PySem.W.keepIn K (.ref f12) = true)
{f13 : Addr} {od13 an13 : Option Addr} {sl13 : Array (Option Value)} {oc13 kV13 dc13 pm13 cd13 ct13 : Value}
    (a13 : PySem.W.nsIn K mainGlobals "misfits" = some (some (.ref f13))) (l13 : K.lookup f13 = some ⟨oc13, od13, .func (PySem.W.fnOf "misfits" "misfits" (defArgs s_misfits) (defBody s_misfits) (defScope s_misfits) .none kV13 dc13 pm13 an13 cd13 ct13), sl13⟩) (c13 : PySem.W.codeIn K cd13 "misfits" = true) (k13 : PySem.W.keepIn K (.ref f13) = true)
{f14 : Addr} {od14 an14 : Option Addr} {sl14 : Array (Option Value)} {oc14 kV14 dc14 pm14 cd14 ct14 : Value}
    (a14 : PySem.W.nsIn K mainGlobals "fitting" = some (some (.ref f14))) (l14 : K.lookup f14 = some ⟨oc14, od14, .func (PySem.W.fnOf "fitting" "fitting" (defArgs s_fitting) (defBody s_fitting) (defScope s_fitting) .none kV14 dc14 pm14 an14 cd14 ct14), sl14⟩) (c14 : PySem.W.codeIn K cd14 "fitting" = true) (k14 : PySem.W.keepIn K (.ref f14) = true)
{f15 : Addr} {od15 an15 : Option Addr} {sl15 : Array (Option Value)} {oc15 kV15 dc15 pm15 cd15 ct15 : Value}
    (a15 : PySem.W.nsIn K mainGlobals "_law_value" = some (some (.ref f15))) (l15 : K.lookup f15 = some ⟨oc15, od15, .func (PySem.W.fnOf "_law_value" "_law_value" (defArgs s_xvalue) (defBody s_xvalue) (defScope s_xvalue) .none kV15 dc15 pm15 an15 cd15 ct15), sl15⟩) (c15 : PySem.W.codeIn K cd15 "_law_value" = true) (k15 : PySem.W.keepIn K (.ref f15) = true)
{f16 : Addr} {od16 an16 : Option Addr} {sl16 : Array (Option Value)} {oc16 kV16 dc16 pm16 cd16 ct16 : Value}
    (a16 : PySem.W.nsIn K mainGlobals "_law_rows_right" = some (some (.ref f16))) (l16 : K.lookup f16 = some ⟨oc16, od16, .func (PySem.W.fnOf "_law_rows_right" "_law_rows_right" (defArgs s_xrows_right) (defBody s_xrows_right) (defScope s_xrows_right) .none kV16 dc16 pm16 an16 cd16 ct16), sl16⟩) (c16 : PySem.W.codeIn K cd16 "_law_rows_right" = true) (k16 : PySem.W.keepIn K (.ref f16) = true)
{f17 : Addr} {od17 an17 : Option Addr} {sl17 : Array (Option Value)} {oc17 kV17 dc17 pm17 cd17 ct17 : Value}
    (a17 : PySem.W.nsIn K mainGlobals "_law_shape" = some (some (.ref f17))) (l17 : K.lookup f17 = some ⟨oc17, od17, .func (PySem.W.fnOf "_law_shape" "_law_shape" (defArgs s_xshape) (defBody s_xshape) (defScope s_xshape) .none kV17 dc17 pm17 an17 cd17 ct17), sl17⟩) (c17 : PySem.W.codeIn K cd17 "_law_shape" = true) (k17 : PySem.W.keepIn K (.ref f17) = true)
{f18 : Addr} {od18 an18 : Option Addr} {sl18 : Array (Option Value)} {oc18 kV18 dc18 pm18 cd18 ct18 : Value}
    (a18 : PySem.W.nsIn K mainGlobals "alike_on" = some (some (.ref f18))) (l18 : K.lookup f18 = some ⟨oc18, od18, .func (PySem.W.fnOf "alike_on" "alike_on" (defArgs s_alike_on) (defBody s_alike_on) (defScope s_alike_on) .none kV18 dc18 pm18 an18 cd18 ct18), sl18⟩) (c18 : PySem.W.codeIn K cd18 "alike_on" = true) (k18 : PySem.W.keepIn K (.ref f18) = true)
{f19 : Addr} {od19 an19 : Option Addr} {sl19 : Array (Option Value)} {oc19 kV19 dc19 pm19 cd19 ct19 : Value}
    (a19 : PySem.W.nsIn K mainGlobals "powers_of" = some (some (.ref f19))) (l19 : K.lookup f19 = some ⟨oc19, od19, .func (PySem.W.fnOf "powers_of" "powers_of" (defArgs s_powers_of) (defBody s_powers_of) (defScope s_powers_of) .none kV19 dc19 pm19 an19 cd19 ct19), sl19⟩) (c19 : PySem.W.codeIn K cd19 "powers_of" = true) (k19 : PySem.W.keepIn K (.ref f19) = true)
{f20 : Addr} {od20 an20 : Option Addr} {sl20 : Array (Option Value)} {oc20 kV20 dc20 pm20 cd20 ct20 : Value}
    (a20 : PySem.W.nsIn K mainGlobals "keeps_of" = some (some (.ref f20))) (l20 : K.lookup f20 = some ⟨oc20, od20, .func (PySem.W.fnOf "keeps_of" "keeps_of" (defArgs s_keeps_of) (defBody s_keeps_of) (defScope s_keeps_of) .none kV20 dc20 pm20 an20 cd20 ct20), sl20⟩) (c20 : PySem.W.codeIn K cd20 "keeps_of" = true) (k20 : PySem.W.keepIn K (.ref f20) = true)
{f21 : Addr} {od21 an21 : Option Addr} {sl21 : Array (Option Value)} {oc21 kV21 dc21 pm21 cd21 ct21 : Value}
    (a21 : PySem.W.nsIn K mainGlobals "two_read" = some (some (.ref f21))) (l21 : K.lookup f21 = some ⟨oc21, od21, .func (PySem.W.fnOf "two_read" "two_read" (defArgs s_two_read) (defBody s_two_read) (defScope s_two_read) .none kV21 dc21 pm21 an21 cd21 ct21), sl21⟩) (c21 : PySem.W.codeIn K cd21 "two_read" = true) (k21 : PySem.W.keepIn K (.ref f21) = true)
{f22 : Addr} {od22 an22 : Option Addr} {sl22 : Array (Option Value)} {oc22 kV22 dc22 pm22 cd22 ct22 : Value}
    (a22 : PySem.W.nsIn K mainGlobals "column_through" = some (some (.ref f22))) (l22 : K.lookup f22 = some ⟨oc22, od22, .func (PySem.W.fnOf "column_through" "column_through" (defArgs s_column_through) (defBody s_column_through) (defScope s_column_through) .none kV22 dc22 pm22 an22 cd22 ct22), sl22⟩) (c22 : PySem.W.codeIn K cd22 "column_through" = true) (k22 : PySem.W.keepIn K (.ref f22) = true)
{f23 : Addr} {od23 an23 : Option Addr} {sl23 : Array (Option Value)} {oc23 kV23 dc23 pm23 cd23 ct23 : Value}
    (a23 : PySem.W.nsIn K mainGlobals "is_number" = some (some (.ref f23))) (l23 : K.lookup f23 = some ⟨oc23, od23, .func (PySem.W.fnOf "is_number" "is_number" (defArgs s_is_number) (defBody s_is_number) (defScope s_is_number) .none kV23 dc23 pm23 an23 cd23 ct23), sl23⟩) (c23 : PySem.W.codeIn K cd23 "is_number" = true) (k23 : PySem.W.keepIn K (.ref f23) = true)
{f24 : Addr} {od24 an24 : Option Addr} {sl24 : Array (Option Value)} {oc24 kV24 dc24 pm24 cd24 ct24 : Value}
    (a24 : PySem.W.nsIn K mainGlobals "is_rest" = some (some (.ref f24))) (l24 : K.lookup f24 = some ⟨oc24, od24, .func (PySem.W.fnOf "is_rest" "is_rest" (defArgs s_is_rest) (defBody s_is_rest) (defScope s_is_rest) .none kV24 dc24 pm24 an24 cd24 ct24), sl24⟩) (c24 : PySem.W.codeIn K cd24 "is_rest" = true) (k24 : PySem.W.keepIn K (.ref f24) = true)
{f25 : Addr} {od25 an25 : Option Addr} {sl25 : Array (Option Value)} {oc25 kV25 dc25 pm25 cd25 ct25 : Value}
    (a25 : PySem.W.nsIn K mainGlobals "is_row" = some (some (.ref f25))) (l25 : K.lookup f25 = some ⟨oc25, od25, .func (PySem.W.fnOf "is_row" "is_row" (defArgs s_is_row) (defBody s_is_row) (defScope s_is_row) .none kV25 dc25 pm25 an25 cd25 ct25), sl25⟩) (c25 : PySem.W.codeIn K cd25 "is_row" = true) (k25 : PySem.W.keepIn K (.ref f25) = true)
{f26 : Addr} {od26 an26 : Option Addr} {sl26 : Array (Option Value)} {oc26 kV26 dc26 pm26 cd26 ct26 : Value}
    (a26 : PySem.W.nsIn K mainGlobals "are_rows" = some (some (.ref f26))) (l26 : K.lookup f26 = some ⟨oc26, od26, .func (PySem.W.fnOf "are_rows" "are_rows" (defArgs s_are_rows) (defBody s_are_rows) (defScope s_are_rows) .none kV26 dc26 pm26 an26 cd26 ct26), sl26⟩) (c26 : PySem.W.codeIn K cd26 "are_rows" = true) (k26 : PySem.W.keepIn K (.ref f26) = true)
{f27 : Addr} {od27 an27 : Option Addr} {sl27 : Array (Option Value)} {oc27 kV27 dc27 pm27 cd27 ct27 : Value}
    (a27 : PySem.W.nsIn K mainGlobals "is_table" = some (some (.ref f27))) (l27 : K.lookup f27 = some ⟨oc27, od27, .func (PySem.W.fnOf "is_table" "is_table" (defArgs s_is_table) (defBody s_is_table) (defScope s_is_table) .none kV27 dc27 pm27 an27 cd27 ct27), sl27⟩) (c27 : PySem.W.codeIn K cd27 "is_table" = true) (k27 : PySem.W.keepIn K (.ref f27) = true)
{f28 : Addr} {od28 an28 : Option Addr} {sl28 : Array (Option Value)} {oc28 kV28 dc28 pm28 cd28 ct28 : Value}
    (a28 : PySem.W.nsIn K mainGlobals "read_back" = some (some (.ref f28))) (l28 : K.lookup f28 = some ⟨oc28, od28, .func (PySem.W.fnOf "read_back" "read_back" (defArgs s_read_back) (defBody s_read_back) (defScope s_read_back) .none kV28 dc28 pm28 an28 cd28 ct28), sl28⟩) (c28 : PySem.W.codeIn K cd28 "read_back" = true) (k28 : PySem.W.keepIn K (.ref f28) = true)
{f29 : Addr} {od29 an29 : Option Addr} {sl29 : Array (Option Value)} {oc29 kV29 dc29 pm29 cd29 ct29 : Value}
    (a29 : PySem.W.nsIn K mainGlobals "keeping_others" = some (some (.ref f29))) (l29 : K.lookup f29 = some ⟨oc29, od29, .func (PySem.W.fnOf "keeping_others" "keeping_others" (defArgs s_keeping_others) (defBody s_keeping_others) (defScope s_keeping_others) .none kV29 dc29 pm29 an29 cd29 ct29), sl29⟩) (c29 : PySem.W.codeIn K cd29 "keeping_others" = true) (k29 : PySem.W.keepIn K (.ref f29) = true)
{f30 : Addr} {od30 an30 : Option Addr} {sl30 : Array (Option Value)} {oc30 kV30 dc30 pm30 cd30 ct30 : Value}
    (a30 : PySem.W.nsIn K mainGlobals "read_right" = some (some (.ref f30))) (l30 : K.lookup f30 = some ⟨oc30, od30, .func (PySem.W.fnOf "read_right" "read_right" (defArgs s_read_right) (defBody s_read_right) (defScope s_read_right) .none kV30 dc30 pm30 an30 cd30 ct30), sl30⟩) (c30 : PySem.W.codeIn K cd30 "read_right" = true) (k30 : PySem.W.keepIn K (.ref f30) = true)
{f31 : Addr} {od31 an31 : Option Addr} {sl31 : Array (Option Value)} {oc31 kV31 dc31 pm31 cd31 ct31 : Value}
    (a31 : PySem.W.nsIn K mainGlobals "_law_kept" = some (some (.ref f31))) (l31 : K.lookup f31 = some ⟨oc31, od31, .func (PySem.W.fnOf "_law_kept" "_law_kept" (defArgs s_xkept) (defBody s_xkept) (defScope s_xkept) .none kV31 dc31 pm31 an31 cd31 ct31), sl31⟩) (c31 : PySem.W.codeIn K cd31 "_law_kept" = true) (k31 : PySem.W.keepIn K (.ref f31) = true)
{f32 : Addr} {od32 an32 : Option Addr} {sl32 : Array (Option Value)} {oc32 kV32 dc32 pm32 cd32 ct32 : Value}
    (a32 : PySem.W.nsIn K mainGlobals "_law_tables_right" = some (some (.ref f32))) (l32 : K.lookup f32 = some ⟨oc32, od32, .func (PySem.W.fnOf "_law_tables_right" "_law_tables_right" (defArgs s_xtables_right) (defBody s_xtables_right) (defScope s_xtables_right) .none kV32 dc32 pm32 an32 cd32 ct32), sl32⟩) (c32 : PySem.W.codeIn K cd32 "_law_tables_right" = true) (k32 : PySem.W.keepIn K (.ref f32) = true)
{f33 : Addr} {od33 an33 : Option Addr} {sl33 : Array (Option Value)} {oc33 kV33 dc33 pm33 cd33 ct33 : Value}
    (a33 : PySem.W.nsIn K mainGlobals "law" = some (some (.ref f33))) (l33 : K.lookup f33 = some ⟨oc33, od33, .func (PySem.W.fnOf "law" "law" (defArgs s_law) (defBody s_law) (defScope s_law) .none kV33 dc33 pm33 an33 cd33 ct33), sl33⟩) (c33 : PySem.W.codeIn K cd33 "law" = true) (k33 : PySem.W.keepIn K (.ref f33) = true)
    (z_all : PySem.W.nsIn K mainGlobals "all" = some none)
    (z_any : PySem.W.nsIn K mainGlobals "any" = some none)
    (z_bool : PySem.W.nsIn K mainGlobals "bool" = some none)
    (z_int : PySem.W.nsIn K mainGlobals "int" = some none)
    (z_isinstance : PySem.W.nsIn K mainGlobals "isinstance" = some none)
    (z_len : PySem.W.nsIn K mainGlobals "len" = some none)
    (z_list : PySem.W.nsIn K mainGlobals "list" = some none)
    (z_range : PySem.W.nsIn K mainGlobals "range" = some none)
    (z_repr : PySem.W.nsIn K mainGlobals "repr" = some none)
    (z_reversed : PySem.W.nsIn K mainGlobals "reversed" = some none)
    (z_sorted : PySem.W.nsIn K mainGlobals "sorted" = some none)
    (z_tuple : PySem.W.nsIn K mainGlobals "tuple" = some none)
    (z_zip : PySem.W.nsIn K mainGlobals "zip" = some none) :
    ∃ fd : FuncData, (∀ (s : Shared) (v : Value), BindsTo s fd ⟨[v], []⟩ [("_law_script", v)]) ∧ ∀ base : Heap, K.In base → base.Ns mainGlobals mg → FnG l.prog w K mg base 14 fa fd ["_law_script"] (spF K 1 F_law) := by
  have e := hfa.symm.trans (PySem.W.mg_of X G a33)
  cases e
  let T : Txt K mg := {
    a_xdraws := f0, fd_xdraws := _, u_xdraws := fun_mk (st := s_xdraws) l0 c0 k0, g_xdraws := PySem.W.mg_of X G a0, b_xdraws := (fun_mk (st := s_xdraws) l0 c0 k0).binds (fun _ _ _ _ _ _ us hl => match us, hl with | [_], _ => rfl),
    a_xnext := f1, fd_xnext := _, u_xnext := fun_mk (st := s_xnext) l1 c1 k1, g_xnext := PySem.W.mg_of X G a1, b_xnext := (fun_mk (st := s_xnext) l1 c1 k1).binds (fun _ _ _ _ _ _ us hl => match us, hl with | [_, _], _ => rfl),
    a_xprime := f2, fd_xprime := _, u_xprime := fun_mk (st := s_xprime) l2 c2 k2, g_xprime := PySem.W.mg_of X G a2, b_xprime := (fun_mk (st := s_xprime) l2 c2 k2).binds (fun _ _ _ _ _ _ us hl => match us, hl with | [_], _ => rfl),
    a_xxs := f3, fd_xxs := _, u_xxs := fun_mk (st := s_xxs) l3 c3 k3, g_xxs := PySem.W.mg_of X G a3, b_xxs := (fun_mk (st := s_xxs) l3 c3 k3).binds (fun _ _ _ _ _ _ us hl => match us, hl with | [_, _, _], _ => rfl),
    a_fitting_many := f4, fd_fitting_many := _, u_fitting_many := fun_mk (st := s_fitting_many) l4 c4 k4, g_fitting_many := PySem.W.mg_of X G a4, b_fitting_many := (fun_mk (st := s_fitting_many) l4 c4 k4).binds (fun _ _ _ _ _ _ us hl => match us, hl with | [_, _], _ => rfl),
    a_with_multiple := f5, fd_with_multiple := _, u_with_multiple := fun_mk (st := s_with_multiple) l5 c5 k5, g_with_multiple := PySem.W.mg_of X G a5, b_with_multiple := (fun_mk (st := s_with_multiple) l5 c5 k5).binds (fun _ _ _ _ _ _ us hl => match us, hl with | [_, _, _, _], _ => rfl),
    a_with_nought_at := f6, fd_with_nought_at := _, u_with_nought_at := fun_mk (st := s_with_nought_at) l6 c6 k6, g_with_nought_at := PySem.W.mg_of X G a6, b_with_nought_at := (fun_mk (st := s_with_nought_at) l6 c6 k6).binds (fun _ _ _ _ _ _ us hl => match us, hl with | [_, _, _], _ => rfl),
    a_worth_at := f7, fd_worth_at := _, u_worth_at := fun_mk (st := s_worth_at) l7 c7 k7, g_worth_at := PySem.W.mg_of X G a7, b_worth_at := (fun_mk (st := s_worth_at) l7 c7 k7).binds (fun _ _ _ _ _ _ us hl => match us, hl with | [_, _, _], _ => rfl),
    a_two_fitting := f8, fd_two_fitting := _, u_two_fitting := fun_mk (st := s_two_fitting) l8 c8 k8, g_two_fitting := PySem.W.mg_of X G a8, b_two_fitting := (fun_mk (st := s_two_fitting) l8 c8 k8).binds (fun _ _ _ _ _ _ us hl => match us, hl with | [_, _, _], _ => rfl),
    a_xone_more := f9, fd_xone_more := _, u_xone_more := fun_mk (st := s_xone_more) l9 c9 k9, g_xone_more := PySem.W.mg_of X G a9, b_xone_more := (fun_mk (st := s_xone_more) l9 c9 k9).binds (fun _ _ _ _ _ _ us hl => match us, hl with | [_, _, _], _ => rfl),
    a_groups_of := f10, fd_groups_of := _, u_groups_of := fun_mk (st := s_groups_of) l10 c10 k10, g_groups_of := PySem.W.mg_of X G a10, b_groups_of := (fun_mk (st := s_groups_of) l10 c10 k10).binds (fun _ _ _ _ _ _ us hl => match us, hl with | [_, _], _ => rfl),
    a_contrary := f11, fd_contrary := _, u_contrary := fun_mk (st := s_contrary) l11 c11 k11, g_contrary := PySem.W.mg_of X G a11, b_contrary := (fun_mk (st := s_contrary) l11 c11 k11).binds (fun _ _ _ _ _ _ us hl => match us, hl with | [_, _], _ => rfl),
    a_through := f12, fd_through := _, u_through := fun_mk (st := s_through) l12 c12 k12, g_through := PySem.W.mg_of X G a12, b_through := (fun_mk (st := s_through) l12 c12 k12).binds (fun _ _ _ _ _ _ us hl => match us, hl with | [_, _], _ => rfl),
    a_misfits := f13, fd_misfits := _, u_misfits := fun_mk (st := s_misfits) l13 c13 k13, g_misfits := PySem.W.mg_of X G a13, b_misfits := (fun_mk (st := s_misfits) l13 c13 k13).binds (fun _ _ _ _ _ _ us hl => match us, hl with | [_, _, _], _ => rfl),
    a_fitting := f14, fd_fitting := _, u_fitting := fun_mk (st := s_fitting) l14 c14 k14, g_fitting := PySem.W.mg_of X G a14, b_fitting := (fun_mk (st := s_fitting) l14 c14 k14).binds (fun _ _ _ _ _ _ us hl => match us, hl with | [_, _, _], _ => rfl),
    a_xvalue := f15, fd_xvalue := _, u_xvalue := fun_mk (st := s_xvalue) l15 c15 k15, g_xvalue := PySem.W.mg_of X G a15, b_xvalue := (fun_mk (st := s_xvalue) l15 c15 k15).binds (fun _ _ _ _ _ _ us hl => match us, hl with | [_, _, _], _ => rfl),
    a_xrows_right := f16, fd_xrows_right := _, u_xrows_right := fun_mk (st := s_xrows_right) l16 c16 k16, g_xrows_right := PySem.W.mg_of X G a16, b_xrows_right := (fun_mk (st := s_xrows_right) l16 c16 k16).binds (fun _ _ _ _ _ _ us hl => match us, hl with | [_], _ => rfl),
    a_xshape := f17, fd_xshape := _, u_xshape := fun_mk (st := s_xshape) l17 c17 k17, g_xshape := PySem.W.mg_of X G a17, b_xshape := (fun_mk (st := s_xshape) l17 c17 k17).binds (fun _ _ _ _ _ _ us hl => match us, hl with | [_, _], _ => rfl),
    a_alike_on := f18, fd_alike_on := _, u_alike_on := fun_mk (st := s_alike_on) l18 c18 k18, g_alike_on := PySem.W.mg_of X G a18, b_alike_on := (fun_mk (st := s_alike_on) l18 c18 k18).binds (fun _ _ _ _ _ _ us hl => match us, hl with | [_, _], _ => rfl),
    a_powers_of := f19, fd_powers_of := _, u_powers_of := fun_mk (st := s_powers_of) l19 c19 k19, g_powers_of := PySem.W.mg_of X G a19, b_powers_of := (fun_mk (st := s_powers_of) l19 c19 k19).binds (fun _ _ _ _ _ _ us hl => match us, hl with | [_, _, _], _ => rfl),
    a_keeps_of := f20, fd_keeps_of := _, u_keeps_of := fun_mk (st := s_keeps_of) l20 c20 k20, g_keeps_of := PySem.W.mg_of X G a20, b_keeps_of := (fun_mk (st := s_keeps_of) l20 c20 k20).binds (fun _ _ _ _ _ _ us hl => match us, hl with | [_, _, _], _ => rfl),
    a_two_read := f21, fd_two_read := _, u_two_read := fun_mk (st := s_two_read) l21 c21 k21, g_two_read := PySem.W.mg_of X G a21, b_two_read := (fun_mk (st := s_two_read) l21 c21 k21).binds (fun _ _ _ _ _ _ us hl => match us, hl with | [_, _, _], _ => rfl),
    a_column_through := f22, fd_column_through := _, u_column_through := fun_mk (st := s_column_through) l22 c22 k22, g_column_through := PySem.W.mg_of X G a22, b_column_through := (fun_mk (st := s_column_through) l22 c22 k22).binds (fun _ _ _ _ _ _ us hl => match us, hl with | [_, _, _, _, _], _ => rfl),
    a_is_number := f23, fd_is_number := _, u_is_number := fun_mk (st := s_is_number) l23 c23 k23, g_is_number := PySem.W.mg_of X G a23, b_is_number := (fun_mk (st := s_is_number) l23 c23 k23).binds (fun _ _ _ _ _ _ us hl => match us, hl with | [_], _ => rfl),
    a_is_rest := f24, fd_is_rest := _, u_is_rest := fun_mk (st := s_is_rest) l24 c24 k24, g_is_rest := PySem.W.mg_of X G a24, b_is_rest := (fun_mk (st := s_is_rest) l24 c24 k24).binds (fun _ _ _ _ _ _ us hl => match us, hl with | [_, _], _ => rfl),
    a_is_row := f25, fd_is_row := _, u_is_row := fun_mk (st := s_is_row) l25 c25 k25, g_is_row := PySem.W.mg_of X G a25, b_is_row := (fun_mk (st := s_is_row) l25 c25 k25).binds (fun _ _ _ _ _ _ us hl => match us, hl with | [_, _, _], _ => rfl),
    a_are_rows := f26, fd_are_rows := _, u_are_rows := fun_mk (st := s_are_rows) l26 c26 k26, g_are_rows := PySem.W.mg_of X G a26, b_are_rows := (fun_mk (st := s_are_rows) l26 c26 k26).binds (fun _ _ _ _ _ _ us hl => match us, hl with | [_, _, _, _], _ => rfl),
    a_is_table := f27, fd_is_table := _, u_is_table := fun_mk (st := s_is_table) l27 c27 k27, g_is_table := PySem.W.mg_of X G a27, b_is_table := (fun_mk (st := s_is_table) l27 c27 k27).binds (fun _ _ _ _ _ _ us hl => match us, hl with | [_, _], _ => rfl),
    a_read_back := f28, fd_read_back := _, u_read_back := fun_mk (st := s_read_back) l28 c28 k28, g_read_back := PySem.W.mg_of X G a28, b_read_back := (fun_mk (st := s_read_back) l28 c28 k28).binds (fun _ _ _ _ _ _ us hl => match us, hl with | [_, _], _ => rfl),
    a_keeping_others := f29, fd_keeping_others := _, u_keeping_others := fun_mk (st := s_keeping_others) l29 c29 k29, g_keeping_others := PySem.W.mg_of X G a29, b_keeping_others := (fun_mk (st := s_keeping_others) l29 c29 k29).binds (fun _ _ _ _ _ _ us hl => match us, hl with | [_, _, _], _ => rfl),
    a_read_right := f30, fd_read_right := _, u_read_right := fun_mk (st := s_read_right) l30 c30 k30, g_read_right := PySem.W.mg_of X G a30, b_read_right := (fun_mk (st := s_read_right) l30 c30 k30).binds (fun _ _ _ _ _ _ us hl => match us, hl with | [_, _], _ => rfl),
    a_xkept := f31, fd_xkept := _, u_xkept := fun_mk (st := s_xkept) l31 c31 k31, g_xkept := PySem.W.mg_of X G a31, b_xkept := (fun_mk (st := s_xkept) l31 c31 k31).binds (fun _ _ _ _ _ _ us hl => match us, hl with | [_, _, _], _ => rfl),
    a_xtables_right := f32, fd_xtables_right := _, u_xtables_right := fun_mk (st := s_xtables_right) l32 c32 k32, g_xtables_right := PySem.W.mg_of X G a32, b_xtables_right := (fun_mk (st := s_xtables_right) l32 c32 k32).binds (fun _ _ _ _ _ _ us hl => match us, hl with | [_], _ => rfl),
    a_law := _, fd_law := _, u_law := fun_mk (st := s_law) l33 c33 k33, g_law := PySem.W.mg_of X G a33, b_law := (fun_mk (st := s_law) l33 c33 k33).binds (fun _ _ _ _ _ _ us hl => match us, hl with | [_], _ => rfl),
    m_all := PySem.W.mg_none_of X G z_all,
    m_any := PySem.W.mg_none_of X G z_any,
    m_bool := PySem.W.mg_none_of X G z_bool,
    m_int := PySem.W.mg_none_of X G z_int,
    m_isinstance := PySem.W.mg_none_of X G z_isinstance,
    m_len := PySem.W.mg_none_of X G z_len,
    m_list := PySem.W.mg_none_of X G z_list,
    m_range := PySem.W.mg_none_of X G z_range,
    m_repr := PySem.W.mg_none_of X G z_repr,
    m_reversed := PySem.W.mg_none_of X G z_reversed,
    m_sorted := PySem.W.mg_none_of X G z_sorted,
    m_tuple := PySem.W.mg_none_of X G z_tuple,
    m_zip := PySem.W.mg_none_of X G z_zip }
  exact ⟨PySem.W.fnOf "law" "law" (defArgs s_law) (defBody s_law) (defScope s_law) .none kV33 dc33 pm33 an33 cd33 ct33, fun s v => .of_eq rfl, fun base _ _ => ok_law T⟩
end Lk38

namespace Lk38
open PySem Sm L2
local macro_rules
  | `(tactic| walk_at "le") => `(tactic| ((try simp only [List.length_cons, List.length_nil, List.length_append, List.length_map]); omega))
local macro_rules
  | `(tactic| walk_at "smb") => `(tactic| first
    | with_reducible assumption
    | with_reducible rfl
    | assumption
    | rfl
    | (simp only [decide_eq_true_eq, decide_eq_false_iff_not, beq_iff_eq, Bool.not_eq_true', Bool.not_eq_false', beq_eq_false_iff_ne, Bool.and_eq_true, Bool.or_eq_true, Bool.not_eq_true, Bool.not_eq_false, ne_eq, Bool.and_eq_false_imp, Bool.or_eq_false_iff]; omega))
local macro_rules
  | `(tactic| walk_at "smf") => `(tactic| fail "no call")
local macro_rules
  | `(tactic| walk_at "sml") => `(tactic| first
    | with_reducible assumption
    | with_reducible exact l_add
    | with_reducible exact l_sub
    | with_reducible exact l_eq
    | with_reducible exact l_ne
    | with_reducible exact l_lt
    | with_reducible exact l_le
    | with_reducible exact l_gt
    | with_reducible exact l_ge
    | with_reducible exact l_eqSS
    | with_reducible exact l_neSS
    | with_reducible exact l_eqBS
    | with_reducible exact l_neBS
    | with_reducible exact l_eqB
    | with_reducible exact l_neB
    | with_reducible exact l_eqS
    | with_reducible exact l_neS
    | with_reducible exact l_neg
    | with_reducible exact isi_int _
    | with_reducible exact isi_bool _
    | with_reducible exact isi_tup _
    | with_reducible exact l_lenL
    | with_reducible exact l_lenT
    | with_reducible exact l_slL
    | with_reducible exact l_slT
    | ((with_reducible apply l_mod); (walk_at "smo"))
    | ((with_reducible apply l_mul); (walk_at "smo"))
    | ((with_reducible apply l_div); (walk_at "smo"); (walk_at "smo"))
    | ((with_reducible apply l_addT); rfl)
    | ((with_reducible apply l_addL); rfl)
    | ((with_reducible apply l_ixL); first | assumption | rfl)
    | ((with_reducible apply l_ixT); first | assumption | rfl)
    | ((with_reducible apply one_eq); (walk_at "sml"))
    | with_reducible assumption
    | rfl)
local macro_rules
  | `(tactic| walk_at "smo") => `(tactic| first | assumption | omega)
local macro_rules
  | `(tactic| walk_at "sm") => `(tactic| first
    | with_reducible assumption
    | with_reducible exact aNil_eq
    | with_reducible exact eC_eq
    | with_reducible exact sNext_eq
    | with_reducible exact eD0_eq
    | ((with_reducible apply eD1_eq); (walk_at "sm"))
    | ((with_reducible apply eC_e); rfl)
    | with_reducible exact oNone_eq
    | ((with_reducible apply eVar_eq); rfl)
    | ((with_reducible apply aCons_eq); (walk_at "sm"); (walk_at "sm"))
    | ((with_reducible apply eOp_eq); (walk_at "sm"); (walk_at "sm"); (walk_at "sml"))
    | ((with_reducible apply eUn_eq); (walk_at "sm"); (walk_at "sml"))
    | ((with_reducible apply eCB_eq); (walk_at "sm"); (walk_at "sml"))
    | ((with_reducible apply eCall_eq); (walk_at "sm"); (first | with_reducible assumption | walk_at "smf"))
    | ((with_reducible apply eTup_e); (walk_at "sm"); rfl; rfl)
    | ((with_reducible apply eLst_e); (walk_at "sm"); rfl; rfl)
    | ((with_reducible apply oSome_eq); (walk_at "sm"))
    | ((with_reducible apply eSl_eq); (walk_at "sm"); (walk_at "sm"); (walk_at "sm"); (walk_at "sml"))
    | ((with_reducible apply eNot_eq); (walk_at "sm"))
    | ((with_reducible apply bNot_eq); (walk_at "sm"))
    | ((with_reducible apply bVal_eq); (walk_at "sm"))
    | ((with_reducible apply bTru_b); (walk_at "sm"))
    | ((with_reducible apply eChain_e); (walk_at "sm"); (walk_at "sm"); (walk_at "sml"); (walk_at "sm"); (walk_at "sml"))
    | ((with_reducible apply eChain3_e); (walk_at "sm"); (walk_at "sm"); (walk_at "sml"); (walk_at "sm"); (walk_at "sml"); (walk_at "sm"); (walk_at "sml"))
    | ((with_reducible apply bOr_e); (walk_at "sm"); (first | ((apply ite_T); (walk_at "smb"); rfl) | ((apply ite_F); (walk_at "smb"); (walk_at "sm")) | ((apply or_gen); (walk_at "sm"))))
    | ((with_reducible apply bAnd_e); (walk_at "sm"); (first | ((apply ite_F); (walk_at "smb"); rfl) | ((apply ite_T); (walk_at "smb"); (walk_at "sm")) | ((apply and_gen); (walk_at "sm"))))
    | ((with_reducible apply eOr_e); (walk_at "sm"); (first | ((apply ite_T); (walk_at "smb"); rfl) | ((apply ite_F); (walk_at "smb"); (walk_at "sm")) | ((apply eor_gen); (walk_at "sm"))))
    | ((with_reducible apply eAnd_e); (walk_at "sm"); (first | ((apply ite_F); (walk_at "smb"); rfl) | ((apply ite_T); (walk_at "smb"); (walk_at "sm")) | ((apply eand_gen); (walk_at "sm"))))
    | ((with_reducible apply eIf_e); (walk_at "sm"); (first | ((apply ite_T); (walk_at "smb"); (walk_at "sm")) | ((apply ite_F); (walk_at "smb"); (walk_at "sm"))))
    | ((with_reducible apply sIf_e); (walk_at "sm"); (first | ((apply ite_T); (walk_at "smb"); (walk_at "sm")) | ((apply ite_F); (walk_at "smb"); (walk_at "sm"))))
    | ((with_reducible apply sSeq_e); (walk_at "sm"); (first | with_reducible exact seqK_rt | ((with_reducible apply seqK_nx); (walk_at "sm")) | ((with_reducible refine Eq.trans seqK_rt ?_); rfl)))
    | ((with_reducible apply sRet_eq); (walk_at "sm"))
    | ((with_reducible apply sAsg_eq); (walk_at "sm"); (walk_at "smg"))
    | with_reducible assumption
    | walk_at "smx")
local macro_rules
  | `(tactic| walk_at "smx") => `(tactic| fail "no step")
local macro_rules
  | `(tactic| walk_at "smg") => `(tactic| first
    | ((with_reducible apply gNm_e); ((dsimp only [List.set]) <;> rfl))
    | ((with_reducible apply gTp_e); rfl; ((dsimp only [setAll, List.set]) <;> rfl))
    | rfl)

abbrev ze (n : Int) : SV := .dat (.int n)
abbrev dk (cs : List Int) (c : Int) (rs : List Int) (rest : Mem) : Mem := some [ze 0] :: none :: some (rs.map fun z => SV.dat (.int z)) :: some [.dat (.list (cs.map PyData.int)), .dat (.int c), .cel 2] :: rest
abbrev rn (cs : List Int) (c many : Int) : Rho := [some (.cel 3), some (ze many), some (.dat (.list (cs.map PyData.int))), some (ze c), some (.cel 2), none, none, none, none]
theorem sq_le {k c : Int} (hk0 : 0 ≤ k) (hk : k ≤ 8192) (hc0 : 0 ≤ c) (hc : c ≤ 16777216) : 0 ≤ k * c * c ∧ k * c * c ≤ 2305843009213693952 := by
  have h1 : 0 ≤ k * c := Int.mul_nonneg hk0 hc0
  have h2 : k * c ≤ 8192 * 16777216 := Int.mul_le_mul hk hc hc0 (by omega)
  exact ⟨Int.mul_nonneg h1 hc0, Int.le_trans (Int.mul_le_mul h2 hc hc0 (by omega)) (by omega)⟩
section
variable {cs rs : List Int} {c many : Int} {rest : Mem}
theorem nx1 : B_xnext_1 [some (.cel 3), some (ze many), none, none, none, none, none, none, none] (dk cs c rs rest) = some (.nx (rn cs c many) (dk cs c rs rest)) := rfl
theorem nx2 (hl : 0 < cs.length) : B_xnext_2 (rn cs c many) (dk cs c rs rest) = some (.nx ((rn cs c many).set 5 (some (ze (c % (cs.length : Int))))) (dk cs c rs rest)) := by
  refine sAsg_eq (x := ze (c % (cs.length : Int))) (M1 := dk cs c rs rest) (eOp_eq (x := ze c) (y := ze (cs.length : Int)) (M1 := dk cs c rs rest) (M2 := dk cs c rs rest) rfl ?_ (l_mod (by omega))) rfl
  refine eCB_eq (xs := [.dat (.list (cs.map PyData.int))]) rfl ?_
  show some (SV.dat (.int ((cs.map PyData.int).length : Int))) = _
  rw [List.length_map]
theorem nx3 {w : Int} : B_xnext_3 ((rn cs c many).set 5 (some (ze w))) (dk cs c rs rest) = some (.nx ((rn cs c many).set 5 (some (ze w))) (dk cs (c + 1) rs rest)) := rfl
theorem rs_at {c1 : Int} {k : Nat} {z : Int} {ρ : Rho} (h4 : ρ[4]? = some (some (.cel 2))) (h5 : ρ[5]? = some (some (ze (k : Int)))) (hz : rs[k]? = some z) : eOp fIx (eVar 4) (eVar 5) ρ (dk cs c1 rs rest) = some (ze z, dk cs c1 rs rest) := by
  refine eOp_eq (x := .cel 2) (y := ze (k : Int)) (M1 := dk cs c1 rs rest) (M2 := dk cs c1 rs rest) ?_ ?_ ?_
  · simp only [eVar, h4]
  · simp only [eVar, h5]
  · show atI (rs.map fun z => SV.dat (.int z)) (k : Int) = _
    exact atI_in rfl (by rw [List.getElem?_map, hz]; rfl)
theorem nx4t {c1 : Int} {k : Nat} {z : Int} (hz : rs[k]? = some z) (h0 : 0 < z) (hm : 0 < many) (hm2 : many < 2 ^ 64) :
    B_xnext_4 ((rn cs c many).set 5 (some (ze (k : Int)))) (dk cs c1 rs rest) = some (.rt (ze (z % many)) (dk cs c1 (rs.set k (z / many)) rest)) := by
  obtain ⟨hlt, _⟩ := List.getElem?_eq_some_iff.mp hz
  refine sIf_t (M1 := dk cs c1 rs rest) ?_ ?_
  · have h : decide ((0 : Int) < z) = true := decide_eq_true h0
    rw [← h]
    exact bVal_eq (eOp_eq (rs_at rfl rfl hz) rfl l_gt)
  · refine sSeq_nx (M1 := dk cs c1 rs rest) (ρ1 := ((rn cs c many).set 5 (some (ze (k : Int)))).set 6 (some (ze (z % many)))) ?_ (sSeq_nx (M1 := dk cs c1 (rs.set k (z / many)) rest) (ρ1 := ((rn cs c many).set 5 (some (ze (k : Int)))).set 6 (some (ze (z % many)))) ?_ rfl)
    · exact sAsg_eq (x := ze (z % many)) (M1 := dk cs c1 rs rest) (eOp_eq (y := ze many) (M1 := dk cs c1 rs rest) (M2 := dk cs c1 rs rest) (rs_at rfl rfl hz) rfl (l_mod hm)) rfl
    · refine sAsg_eq (x := ze (z / many)) (M1 := dk cs c1 rs rest) (eOp_eq (y := ze many) (M1 := dk cs c1 rs rest) (M2 := dk cs c1 rs rest) (rs_at rfl rfl hz) rfl (l_div hm hm2)) ?_
      show ((ixN (rs.map fun z => SV.dat (.int z)).length (k : Int)).bind fun j => some (_, ((dk cs c1 rs rest).set 2 (some ((rs.map fun z => SV.dat (.int z)).set j (.dat (.int (z / many)))))))) = _
      rw [List.length_map, ixN_in hlt]
      simp [List.map_set]
theorem nx4f {c1 : Int} {k : Nat} {z : Int} (hz : rs[k]? = some z) (h0 : ¬ 0 < z) :
    B_xnext_4 ((rn cs c many).set 5 (some (ze (k : Int)))) (dk cs c1 rs rest) = some (.nx ((rn cs c many).set 5 (some (ze (k : Int)))) (dk cs c1 rs rest)) := by
  refine sIf_f (M1 := dk cs c1 rs rest) ?_ rfl
  have h : decide ((0 : Int) < z) = false := decide_eq_false h0
  rw [← h]
  exact bVal_eq (eOp_eq (rs_at rfl rfl hz) rfl l_gt)
theorem nx57 {c1 : Int} {k : Nat} {z : Int} (hz : cs[k]? = some z) (hc : 0 ≤ c) (hc2 : c ≤ 16777216) (hm : 0 < many) :
    ∃ r, 0 ≤ r ∧ r < many ∧ sSeq B_xnext_5 (sSeq B_xnext_6 B_xnext_7) ((rn cs c many).set 5 (some (ze (k : Int)))) (dk cs c1 rs rest) = some (.rt (ze r) (dk cs c1 rs rest)) := by
  have cz : ∀ ρ : Rho, ρ[2]? = some (some (.dat (.list (cs.map PyData.int)))) → ρ[5]? = some (some (ze (k : Int))) → eOp fIx (eVar 2) (eVar 5) ρ (dk cs c1 rs rest) = some (ze z, dk cs c1 rs rest) := by
    intro ρ h2 h5
    refine eOp_eq (x := .dat (.list (cs.map PyData.int))) (y := ze (k : Int)) (M1 := dk cs c1 rs rest) (M2 := dk cs c1 rs rest) ?_ ?_ ?_
    · simp only [eVar, h2]
    · simp only [eVar, h5]
    · show (atI (cs.map PyData.int) (k : Int)).bind _ = _
      rw [atI_in (x := PyData.int z) rfl (by rw [List.getElem?_map, hz]; rfl)]
      rfl
  have s5 : ∃ m, 0 ≤ m ∧ m < 2147483648 ∧ B_xnext_5 ((rn cs c many).set 5 (some (ze (k : Int)))) (dk cs c1 rs rest) = some (.nx (((rn cs c many).set 5 (some (ze (k : Int)))).set 7 (some (ze m))) (dk cs c1 rs rest)) := by
    refine ⟨(z % _ + _ * c + _) ^ 3 % _, ?_, ?_, sAsg_eq (M1 := dk cs c1 rs rest) (eOp_eq (M1 := dk cs c1 rs rest) (eOp_eq (M1 := dk cs c1 rs rest) (y := .dat (.int ((3 : Nat) : Int))) (eOp_eq (M1 := dk cs c1 rs rest) (eOp_eq (M1 := dk cs c1 rs rest) (eOp_eq (M1 := dk cs c1 rs rest) (cz _ rfl rfl) rfl (l_mod ?_)) (eOp_eq (M1 := dk cs c1 rs rest) (y := ze c) rfl rfl (l_mul ?_)) l_add) rfl l_add) rfl (l_pow ?_ ?_ ?_)) rfl (l_mod ?_)) rfl⟩
    · exact Int.emod_nonneg _ (by decide)
    · exact Int.lt_trans (Int.emod_lt_of_pos _ (by decide)) (by decide)
    · decide
    · left; decide
    · decide
    · omega
    · omega
    · decide
  obtain ⟨m, m0, m1, e5⟩ := s5
  have s6 : ∃ m', 0 ≤ m' ∧ m' < 2147483648 ∧ B_xnext_6 (((rn cs c many).set 5 (some (ze (k : Int)))).set 7 (some (ze m))) (dk cs c1 rs rest) = some (.nx ((((rn cs c many).set 5 (some (ze (k : Int)))).set 7 (some (ze m))).set 8 (some (ze m'))) (dk cs c1 rs rest)) := by
    refine ⟨(m + _ * c * c + _) ^ 3 % _, ?_, ?_, sAsg_eq (M1 := dk cs c1 rs rest) (eOp_eq (M1 := dk cs c1 rs rest) (eOp_eq (M1 := dk cs c1 rs rest) (y := .dat (.int ((3 : Nat) : Int))) (eOp_eq (M1 := dk cs c1 rs rest) (eOp_eq (M1 := dk cs c1 rs rest) (x := ze m) rfl (eOp_eq (M1 := dk cs c1 rs rest) (y := ze c) (eOp_eq (M1 := dk cs c1 rs rest) (y := ze c) rfl rfl (l_mul ?_)) rfl (l_mul ?_)) l_add) rfl l_add) rfl (l_pow ?_ ?_ ?_)) rfl (l_mod ?_)) rfl⟩
    · exact Int.emod_nonneg _ (by decide)
    · exact Int.lt_trans (Int.emod_lt_of_pos _ (by decide)) (by decide)
    · left; decide
    · right; omega
    · decide
    · refine Int.lt_of_lt_of_le (b := 0) (by decide) (Int.add_nonneg (Int.add_nonneg m0 (sq_le ?_ ?_ hc hc2).1) (by decide)) <;> decide
    · refine Int.lt_of_le_of_lt (Int.add_le_add (Int.add_le_add (Int.le_of_lt m1) (sq_le ?_ ?_ hc hc2).2) (Int.le_refl _)) ?_ <;> decide
    · decide
  obtain ⟨m', m2, m3, e6⟩ := s6
  refine ⟨(m' * _ + m) % _ % many, Int.emod_nonneg _ (by omega), Int.emod_lt_of_pos _ hm, sSeq_nx e5 (sSeq_nx e6 (sRet_eq (eOp_eq (M1 := dk cs c1 rs rest) (y := ze many) (eOp_eq (M1 := dk cs c1 rs rest) (eOp_eq (M1 := dk cs c1 rs rest) (y := ze m) (eOp_eq (M1 := dk cs c1 rs rest) (x := ze m') rfl rfl (l_mul ?_)) rfl l_add) rfl (l_mod ?_)) rfl (l_mod hm))))⟩
  · right; decide
  · decide
theorem next_ok (hl : 0 < cs.length) (hr : rs.length = cs.length) (h0 : ∀ z ∈ rs, 0 ≤ z) (hc : 0 ≤ c) (hc2 : c ≤ 16777216) (hm : 0 < many) (hm2 : many < 2 ^ 64) :
    ∃ r rs', 0 ≤ r ∧ r < many ∧ rs'.length = cs.length ∧ (∀ z ∈ rs', 0 ≤ z) ∧ F_xnext [.cel 3, ze many] (dk cs c rs rest) = some (ze r, dk cs (c + 1) rs' rest) := by
  have fin : ∀ r rs', B_xnext [some (.cel 3), some (ze many), none, none, none, none, none, none, none] (dk cs c rs rest) = some (.rt (ze r) (dk cs (c + 1) rs' rest)) → F_xnext [.cel 3, ze many] (dk cs c rs rest) = some (ze r, dk cs (c + 1) rs' rest) := by
    intro r rs' h
    exact mkF_rtL rfl h
  have a1 := Int.emod_nonneg c (b := (cs.length : Int)) (by omega)
  have a2 := Int.emod_lt_of_pos c (b := (cs.length : Int)) (by omega)
  have n2 := nx2 (c := c) (many := many) (rs := rs) (rest := rest) hl
  have hk : c % (cs.length : Int) = (((c % (cs.length : Int)).toNat : Nat) : Int) := by omega
  have hlt : (c % (cs.length : Int)).toNat < cs.length := by omega
  rw [hk] at n2
  generalize (c % (cs.length : Int)).toNat = k at hlt n2
  have hz : rs[k]? = some rs[k] := List.getElem?_eq_getElem (by omega)
  have hz0 : 0 ≤ rs[k] := h0 _ (List.getElem_mem _)
  have hq : cs[k]? = some cs[k] := List.getElem?_eq_getElem hlt
  by_cases hb : 0 < rs[k]
  · refine ⟨rs[k] % many, rs.set k (rs[k] / many), Int.emod_nonneg _ (by omega), Int.emod_lt_of_pos _ hm, by rw [List.length_set]; exact hr, fun z hz' => ?_, fin _ _ (sSeq_nx nx1 (sSeq_nx n2 (sSeq_nx nx3 (sSeq_rt (nx4t hz hb hm hm2)))))⟩
    rcases List.mem_or_eq_of_mem_set hz' with q | q
    · exact h0 z q
    · rw [q]; exact Int.ediv_nonneg hz0 (by omega)
  · obtain ⟨r, h1, h2, h3⟩ := nx57 (cs := cs) (rs := rs) (c := c) (c1 := c + 1) (many := many) (rest := rest) hq hc hc2 hm
    exact ⟨r, rs, h1, h2, hr, h0, fin r rs (sSeq_nx nx1 (sSeq_nx n2 (sSeq_nx nx3 (sSeq_nx (nx4f hz hb) h3))))⟩
end

theorem deck_ok (ns : List Int) (hn : ns.length ≤ 63) : ∃ cs rs, 0 < cs.length ∧ rs.length = cs.length ∧ (∀ z ∈ rs, 0 ≤ z) ∧ F_xdraws [.dat (.list (ns.map PyData.int))] [] = some (.cel 3, dk cs 0 rs []) := by
  by_cases h0 : ns = []
  · subst h0
    exact ⟨[0], [0], by decide, rfl, fun z hz => by rw [List.mem_singleton] at hz; omega, rfl⟩
  have hl : 0 < ns.length := List.length_pos_iff.mpr h0
  refine ⟨ns, ns.map fun z => z * (if 1000000000000000000 ≤ z then 1 else 0), hl, List.length_map _, fun z hz => ?_, ?_⟩
  · obtain ⟨y, _, rfl⟩ := List.mem_map.mp hz
    split <;> omega
  have cut : cutD (ns.map PyData.int) none (some 63) = ns.map PyData.int := by
    unfold cutD
    have e1 : HT.sIx (ns.map PyData.int).length 0 none = 0 := rfl
    have e2 : HT.sIx (ns.map PyData.int).length (ns.map PyData.int).length (some 63) = min 63 (ns.map PyData.int).length := HT.sIx_nat _ _ 63
    rw [e1, e2, List.drop_zero, Nat.sub_zero]
    apply List.take_of_length_le
    rw [List.length_map]; omega
  have lc : lcL (gNm 2) bYes (eOp (lift2 dMul) (eVar 2) (eCB (one (lift1 dInt)) (aCons (eOp (lift2 dGe) (eVar 2) (eOp (lift2 dPow) (eC (.int 10)) (eC (.int 18)))) aNil))) [some (.dat (.list (ns.map PyData.int))), some (.dat (.list (ns.map PyData.int))), none] (ns.map PyData.int) [some [ze 0], none] = some ((ns.map PyData.int).map (fun d => match d with | .int z => .int (z * (if 1000000000000000000 ≤ z then 1 else 0)) | _ => .none), [some [ze 0], none]) := by
    refine lcL_map _ fun d hd => ?_
    obtain ⟨z, _, rfl⟩ := List.mem_map.mp hd
    refine ⟨_, rfl, ?_⟩
    have t : lift2 dGe [some [ze 0], none] (ze z) (ze (10 ^ 18)) = some (.dat (.bool (decide (10 ^ 18 ≤ z)))) := l_ge
    have p : lift2 dPow [some [ze 0], none] (ze 10) (.dat (.int ((18 : Nat) : Int))) = some (ze (10 ^ 18)) := l_pow (by decide) (by decide) (by decide)
    have i : lift1 dInt [some [ze 0], none] (.dat (.bool (decide ((10 : Int) ^ 18 ≤ z)))) = some (ze (if 1000000000000000000 ≤ z then 1 else 0)) := by
      by_cases q : (1000000000000000000 : Int) ≤ z
      · rw [if_pos q, decide_eq_true (show (10 : Int) ^ 18 ≤ z from q)]; rfl
      · rw [if_neg q, decide_eq_false (show ¬ (10 : Int) ^ 18 ≤ z from q)]; rfl
    exact eOp_eq (x := ze z) (M1 := [some [ze 0], none]) rfl (eCB_eq (aCons_eq (eOp_eq (x := ze z) (M1 := [some [ze 0], none]) rfl (eOp_eq (x := ze 10) (M1 := [some [ze 0], none]) rfl rfl p) t) rfl) i) (l_mul (.inr (by split <;> decide)))
  rw [List.map_map] at lc
  have b1 : B_xdraws_1 [some (.dat (.list (ns.map PyData.int))), none, none] [] = some (.nx [some (.dat (.list (ns.map PyData.int))), some (.dat (.list (ns.map PyData.int))), none] [some [ze 0], none]) := by
    have e1 : eCB (one fList) (aCons (eSl fSl (eVar 0) oNone (oSome (eC (.int 63)))) aNil) [some (.dat (.list (ns.map PyData.int))), none, none] [] = some (.dat (.list (ns.map PyData.int)), []) := by
      show some (SV.dat (.list (cutD (ns.map PyData.int) none (some 63))), []) = _
      rw [cut]
    have e3 : lift2 dEq [some [ze 0]] (ze (ns.map PyData.int).length) (ze 0) = some (.dat (.bool false)) := by
      rw [l_eq, List.length_map]
      have : ((ns.length : Int) == 0) = false := beq_eq_false_iff_ne.mpr (by omega)
      rw [this]
    have e2 : eFrz (eRepN (eNew (aCons (eC (.int 0)) aNil)) (eCB (one (lift1 dInt)) (aCons (eOp (lift2 dEq) (eCB (one fLen) (aCons (eVar 0) aNil)) (eC (.int 0))) aNil))) [some (.dat (.list (ns.map PyData.int))), none, none] [] = some (.dat (.list []), [some [ze 0], none]) := by
      have e4 : eCB (one (lift1 dInt)) (aCons (eOp (lift2 dEq) (eCB (one fLen) (aCons (eVar 0) aNil)) (eC (.int 0))) aNil) [some (.dat (.list (ns.map PyData.int))), none, none] [some [ze 0]] = some (ze 0, [some [ze 0]]) :=
        eCB_eq (aCons_eq (eOp_eq (x := ze (ns.map PyData.int).length) (y := ze 0) (M1 := [some [ze 0]]) (M2 := [some [ze 0]]) rfl rfl e3) rfl) rfl
      have e5 : eRepN (eNew (aCons (eC (.int 0)) aNil)) (eCB (one (lift1 dInt)) (aCons (eOp (lift2 dEq) (eCB (one fLen) (aCons (eVar 0) aNil)) (eC (.int 0))) aNil)) [some (.dat (.list (ns.map PyData.int))), none, none] [] = some (.cel 1, [some [ze 0], some []]) := by
        have e6 : eNew (aCons (eC (.int 0)) aNil) [some (.dat (.list (ns.map PyData.int))), none, none] [] = some (.cel 0, [some [ze 0]]) := rfl
        unfold eRepN
        simp only [e6, Option.bind_some, e4]
        rfl
      unfold eFrz
      rw [e5]
      rfl
    refine sAsg_eq (x := .dat (.list (ns.map PyData.int))) (M1 := [some [ze 0], none]) (eOp_eq e1 e2 ?_) rfl
    rw [l_addL (by rw [List.length_map]; exact Nat.ble_eq_true_of_le (by simp; omega)), List.append_nil]
  have el : eLcN (iDat (eVar 1)) (gNm 2) bYes (eOp (lift2 dMul) (eVar 2) (eCB (one (lift1 dInt)) (aCons (eOp (lift2 dGe) (eVar 2) (eOp (lift2 dPow) (eC (.int 10)) (eC (.int 18)))) aNil))) [2] [some (.dat (.list (ns.map PyData.int))), some (.dat (.list (ns.map PyData.int))), none] [some [ze 0], none] = some (.cel 2, [some [ze 0], none, some ((ns.map fun z => z * (if 1000000000000000000 ≤ z then 1 else 0)).map fun z => SV.dat (.int z))]) := by
    unfold eLcN
    show (if (ns.map PyData.int).length ≤ 100000 then (lcL (gNm 2) bYes (eOp (lift2 dMul) (eVar 2) (eCB (one (lift1 dInt)) (aCons (eOp (lift2 dGe) (eVar 2) (eOp (lift2 dPow) (eC (.int 10)) (eC (.int 18)))) aNil))) [some (.dat (.list (ns.map PyData.int))), some (.dat (.list (ns.map PyData.int))), none] (ns.map PyData.int) [some [ze 0], none]).bind _ else none) = _
    rw [if_pos (by rw [List.length_map]; omega), lc]
    show some (SV.cel 2, [some [ze 0], none, some ((ns.map _).map SV.dat)]) = _
    rw [List.map_map, List.map_map]
    rfl
  have fin := eNew_eq (aCons_eq (a := eVar 1) (x := .dat (.list (ns.map PyData.int))) (M1 := [some [ze 0], none]) rfl (aCons_eq (a := eC (.int 0)) (x := ze 0) (M1 := [some [ze 0], none]) rfl (aCons_eq (as := aNil) (xs := []) el rfl))) (show 3 ≤ 100000 by omega)
  exact mkF_c (sSeq_nx b1 (sRet_eq fin))
theorem range_at {lo hi : Int} {i : Nat} {x : PyData} (h : (rangeD lo hi)[i]? = some x) : ∃ z, x = .int z ∧ lo ≤ z ∧ z < hi := by
  unfold rangeD at h
  rw [List.getElem?_map] at h
  obtain ⟨k, hk, e⟩ := Option.map_eq_some_iff.mp h
  obtain ⟨h1, h2⟩ := List.getElem?_eq_some_iff.mp hk
  rw [List.length_range] at h1
  rw [List.getElem_range] at h2
  subst h2
  exact ⟨_, e.symm, by omega, by omega⟩
/-! ### what is drawn -/
def Gd (rest : Mem) (b : Int) (M : Mem) : Prop := ∃ cs c rs, M = dk cs c rs rest ∧ 0 < cs.length ∧ rs.length = cs.length ∧ (∀ z ∈ rs, 0 ≤ z) ∧ 0 ≤ c ∧ c ≤ b
theorem Gd.up {rest : Mem} {b b' : Int} {M : Mem} (h : Gd rest b M) (hb : b ≤ b') : Gd rest b' M := by
  obtain ⟨cs, c, rs, e, h0, h1, h2, h3, h4⟩ := h
  exact ⟨cs, c, rs, e, h0, h1, h2, h3, by omega⟩
theorem Gd.len {rest : Mem} {b b' : Int} {M M' : Mem} (h : Gd rest b M) (h' : Gd rest b' M') : M'.length = M.length := by
  obtain ⟨cs, c, rs, rfl, _⟩ := h
  obtain ⟨cs', c', rs', rfl, _⟩ := h'
  rfl
theorem next_g {rest : Mem} {b many : Int} {M : Mem} (h : Gd rest b M) (hb : b < 16777216) (hm : 0 < many) (hm2 : many < 2 ^ 64) :
    ∃ r M', F_xnext [.cel 3, ze many] M = some (ze r, M') ∧ 0 ≤ r ∧ r < many ∧ Gd rest (b + 1) M' := by
  obtain ⟨cs, c, rs, rfl, h0, h1, h2, h3, h4⟩ := h
  obtain ⟨r, rs', r1, r2, r3, r4, e⟩ := next_ok (rest := rest) (many := many) h0 h1 h2 h3 (by omega) hm hm2
  exact ⟨r, _, e, r1, r2, cs, c + 1, rs', rfl, h0, r3, r4, by omega, by omega⟩
theorem start_g (ns : List Int) (hn : ns.length ≤ 63) : ∃ M, F_xdraws [.dat (.list (ns.map PyData.int))] [] = some (.cel 3, M) ∧ Gd [] 0 M := by
  obtain ⟨cs, rs, h0, h1, h2, e⟩ := deck_ok ns hn
  exact ⟨_, e, cs, 0, rs, rfl, h0, h1, h2, by decide, by decide⟩

/-! ### lists that grow beside the second deck -/
abbrev cd (ds : List PyData) : Option (List SV) := some (ds.map SV.dat)
section
variable {rest : Mem} {F : Option (List SV)} {b : Int} {M : Mem}
theorem gd_len (h : Gd rest b M) : M.length = rest.length + 4 := by
  obtain ⟨cs, c, rs, rfl, _⟩ := h
  rfl
theorem gd_new (h : Gd rest b M) (F : Option (List SV)) : Gd (rest ++ [F]) b (M ++ [F]) := by
  obtain ⟨cs, c, rs, rfl, h⟩ := h
  exact ⟨cs, c, rs, rfl, h⟩
theorem gd_get (h : Gd (rest ++ [F]) b M) : M[rest.length + 4]? = some F := by
  obtain ⟨cs, c, rs, rfl, _⟩ := h
  show (rest ++ [F])[rest.length]? = some F
  rw [List.getElem?_append_right (Nat.le_refl _), Nat.sub_self]; rfl
theorem gd_set (h : Gd (rest ++ [F]) b M) (v : Option (List SV)) : Gd (rest ++ [v]) b (M.set (rest.length + 4) v) := by
  obtain ⟨cs, c, rs, rfl, h⟩ := h
  refine ⟨cs, c, rs, ?_, h⟩
  show _ :: _ :: _ :: _ :: (rest ++ [F]).set rest.length v = _
  rw [List.set_append_right _ _ (Nat.le_refl _), Nat.sub_self]; rfl
theorem gd_cut (h : Gd (rest ++ [F]) b M) : Gd rest b (M.take (rest.length + 4)) := by
  obtain ⟨cs, c, rs, rfl, h⟩ := h
  refine ⟨cs, c, rs, ?_, h⟩
  show _ :: _ :: _ :: _ :: (rest ++ [F]).take rest.length = _
  rw [List.take_left']
  rfl
theorem grow {ρ : Rho} {i : Nat} {el : SE} {d : PyData} {ds : List PyData} {b1 : Int} {M1 : Mem} (h : Gd (rest ++ [cd ds]) b M) (hv : ρ[i]? = some (some (.cel (rest.length + 4)))) (he : el ρ M = some (.dat d, M1)) (h1 : Gd (rest ++ [cd ds]) b1 M1) (hl : ds.length < 1000) :
    ∃ M', sApp (eVar i) el ρ M = some (.nx ρ M') ∧ Gd (rest ++ [cd (ds ++ [d])]) b1 M' := by
  refine ⟨_, sApp_eq (o := eVar i) (i := rest.length + 4) (M1 := M) (eVar_eq hv) he (gd_get h) (gd_get h1) (by rw [List.length_map]; omega), ?_⟩
  have := gd_set h1 (cd (ds ++ [d]))
  have e2 : cd (ds ++ [d]) = some (ds.map SV.dat ++ [SV.dat d]) := by simp [cd]
  rw [e2] at this ⊢
  exact this
theorem held {ρ ρ' : Rho} {i : Nat} {s : SS} {ds : List PyData} {M' : Mem} (hs : s ρ M = some (.nx ρ' M')) (h : Gd (rest ++ [cd ds]) b M') (hv : ρ'[i]? = some (some (.cel (rest.length + 4)))) :
    sFrz i s ρ M = some (.nx (ρ'.set i (some (.dat (.list ds)))) (M'.set (rest.length + 4) none)) ∧ Gd (rest ++ [none]) b (M'.set (rest.length + 4) none) :=
  ⟨sFrz_eq hs hv (gd_get h) (dats_map ds), gd_set h none⟩
end
section
variable {rest : Mem} {b p many : Int} {M : Mem}
theorem xprime_ok (h : Gd rest b M) (hb : b < 16000000) : ∃ p M', F_xprime [.cel 3] M = some (ze p, M') ∧ p ∈ [(11 : Int), 13, 17, 31, 101, 211] ∧ Gd rest (b + 1) M' := by
  obtain ⟨r, M1, e1, r1, r2, h1⟩ := next_g (many := 6) h (by omega) (by omega) (by omega)
  have key : ∃ p, atI [PyData.int 11, .int 13, .int 17, .int 31, .int 101, .int 211] r = some (.int p) ∧ p ∈ [(11 : Int), 13, 17, 31, 101, 211] := by
    have : r = 0 ∨ r = 1 ∨ r = 2 ∨ r = 3 ∨ r = 4 ∨ r = 5 := by omega
    rcases this with rfl | rfl | rfl | rfl | rfl | rfl
    · exact ⟨11, rfl, by decide⟩
    · exact ⟨13, rfl, by decide⟩
    · exact ⟨17, rfl, by decide⟩
    · exact ⟨31, rfl, by decide⟩
    · exact ⟨101, rfl, by decide⟩
    · exact ⟨211, rfl, by decide⟩
  obtain ⟨p, k1, k2⟩ := key
  refine ⟨p, M1, mkF_rtL (h1.len h).symm ?_, k2, h1⟩
  show B_xprime [some (.cel 3)] M = _
  walk_at "sm"
theorem pr_b {p : Int} (h : p ∈ [(11 : Int), 13, 17, 31, 101, 211]) : 11 ≤ p ∧ p ≤ 211 := by
  simp at h; omega
theorem rg_len (n : Int) : ((rangeD 0 n).length : Int) = max n 0 := by
  unfold rangeD
  rw [List.length_map, List.length_range]; omega
end

end Lk38

namespace Lk38
open PySem Sm L2
local macro_rules
  | `(tactic| walk_at "le") => `(tactic| ((try simp only [List.length_cons, List.length_nil, List.length_append, List.length_map]); omega))
local macro_rules
  | `(tactic| walk_at "smb") => `(tactic| first
    | with_reducible assumption
    | with_reducible rfl
    | assumption
    | rfl
    | (simp only [decide_eq_true_eq, decide_eq_false_iff_not, beq_iff_eq, Bool.not_eq_true', Bool.not_eq_false', beq_eq_false_iff_ne, Bool.and_eq_true, Bool.or_eq_true, Bool.not_eq_true, Bool.not_eq_false, ne_eq, Bool.and_eq_false_imp, Bool.or_eq_false_iff]; omega))
local macro_rules
  | `(tactic| walk_at "smf") => `(tactic| fail "no call")
local macro_rules
  | `(tactic| walk_at "sml") => `(tactic| first
    | with_reducible assumption
    | with_reducible exact l_add
    | with_reducible exact l_sub
    | with_reducible exact l_eq
    | with_reducible exact l_ne
    | with_reducible exact l_lt
    | with_reducible exact l_le
    | with_reducible exact l_gt
    | with_reducible exact l_ge
    | with_reducible exact l_eqSS
    | with_reducible exact l_neSS
    | with_reducible exact l_eqBS
    | with_reducible exact l_neBS
    | with_reducible exact l_eqB
    | with_reducible exact l_neB
    | with_reducible exact l_eqS
    | with_reducible exact l_neS
    | with_reducible exact l_neg
    | with_reducible exact isi_int _
    | with_reducible exact isi_bool _
    | with_reducible exact isi_tup _
    | with_reducible exact l_lenL
    | with_reducible exact l_lenT
    | with_reducible exact l_slL
    | with_reducible exact l_slT
    | ((with_reducible apply l_mod); (walk_at "smo"))
    | ((with_reducible apply l_mul); (walk_at "smo"))
    | ((with_reducible apply l_div); (walk_at "smo"); (walk_at "smo"))
    | ((with_reducible apply l_addT); rfl)
    | ((with_reducible apply l_addL); rfl)
    | ((with_reducible apply l_ixL); first | assumption | rfl)
    | ((with_reducible apply l_ixT); first | assumption | rfl)
    | ((with_reducible apply one_eq); (walk_at "sml"))
    | with_reducible assumption
    | rfl)
local macro_rules
  | `(tactic| walk_at "smo") => `(tactic| first | assumption | omega)
local macro_rules
  | `(tactic| walk_at "sm") => `(tactic| first
    | with_reducible assumption
    | with_reducible exact aNil_eq
    | with_reducible exact eC_eq
    | with_reducible exact sNext_eq
    | with_reducible exact eD0_eq
    | ((with_reducible apply eD1_eq); (walk_at "sm"))
    | ((with_reducible apply eC_e); rfl)
    | with_reducible exact oNone_eq
    | ((with_reducible apply eVar_eq); rfl)
    | ((with_reducible apply aCons_eq); (walk_at "sm"); (walk_at "sm"))
    | ((with_reducible apply eOp_eq); (walk_at "sm"); (walk_at "sm"); (walk_at "sml"))
    | ((with_reducible apply eUn_eq); (walk_at "sm"); (walk_at "sml"))
    | ((with_reducible apply eCB_eq); (walk_at "sm"); (walk_at "sml"))
    | ((with_reducible apply eCall_eq); (walk_at "sm"); (first | with_reducible assumption | walk_at "smf"))
    | ((with_reducible apply eTup_e); (walk_at "sm"); rfl; rfl)
    | ((with_reducible apply eLst_e); (walk_at "sm"); rfl; rfl)
    | ((with_reducible apply oSome_eq); (walk_at "sm"))
    | ((with_reducible apply eSl_eq); (walk_at "sm"); (walk_at "sm"); (walk_at "sm"); (walk_at "sml"))
    | ((with_reducible apply eNot_eq); (walk_at "sm"))
    | ((with_reducible apply bNot_eq); (walk_at "sm"))
    | ((with_reducible apply bVal_eq); (walk_at "sm"))
    | ((with_reducible apply bTru_b); (walk_at "sm"))
    | ((with_reducible apply eChain_e); (walk_at "sm"); (walk_at "sm"); (walk_at "sml"); (walk_at "sm"); (walk_at "sml"))
    | ((with_reducible apply eChain3_e); (walk_at "sm"); (walk_at "sm"); (walk_at "sml"); (walk_at "sm"); (walk_at "sml"); (walk_at "sm"); (walk_at "sml"))
    | ((with_reducible apply bOr_e); (walk_at "sm"); (first | ((apply ite_T); (walk_at "smb"); rfl) | ((apply ite_F); (walk_at "smb"); (walk_at "sm")) | ((apply or_gen); (walk_at "sm"))))
    | ((with_reducible apply bAnd_e); (walk_at "sm"); (first | ((apply ite_F); (walk_at "smb"); rfl) | ((apply ite_T); (walk_at "smb"); (walk_at "sm")) | ((apply and_gen); (walk_at "sm"))))
    | ((with_reducible apply eOr_e); (walk_at "sm"); (first | ((apply ite_T); (walk_at "smb"); rfl) | ((apply ite_F); (walk_at "smb"); (walk_at "sm")) | ((apply eor_gen); (walk_at "sm"))))
    | ((with_reducible apply eAnd_e); (walk_at "sm"); (first | ((apply ite_F); (walk_at "smb"); rfl) | ((apply ite_T); (walk_at "smb"); (walk_at "sm")) | ((apply eand_gen); (walk_at "sm"))))
    | ((with_reducible apply eIf_e); (walk_at "sm"); (first | ((apply ite_T); (walk_at "smb"); (walk_at "sm")) | ((apply ite_F); (walk_at "smb"); (walk_at "sm"))))
    | ((with_reducible apply sIf_e); (walk_at "sm"); (first | ((apply ite_T); (walk_at "smb"); (walk_at "sm")) | ((apply ite_F); (walk_at "smb"); (walk_at "sm"))))
    | ((with_reducible apply sSeq_e); (walk_at "sm"); (first | with_reducible exact seqK_rt | ((with_reducible apply seqK_nx); (walk_at "sm")) | ((with_reducible refine Eq.trans seqK_rt ?_); rfl)))
    | ((with_reducible apply sRet_eq); (walk_at "sm"))
    | ((with_reducible apply sAsg_eq); (walk_at "sm"); (walk_at "smg"))
    | with_reducible assumption
    | walk_at "smx")
local macro_rules
  | `(tactic| walk_at "smx") => `(tactic| fail "no step")
local macro_rules
  | `(tactic| walk_at "smg") => `(tactic| first
    | ((with_reducible apply gNm_e); ((dsimp only [List.set]) <;> rfl))
    | ((with_reducible apply gTp_e); rfl; ((dsimp only [setAll, List.set]) <;> rfl))
    | rfl)

section
variable {p : Int}
theorem nodup_sub : ∀ (l fs : List Int), l.Nodup → (∀ a ∈ l, a ∈ fs) → l.length ≤ fs.length
  | [], _, _, _ => Nat.zero_le _
  | a :: l, fs, hn, hs => by
    obtain ⟨h1, h2⟩ := List.nodup_cons.mp hn
    have ha := hs a List.mem_cons_self
    have := nodup_sub l (fs.erase a) h2 fun c hc => (List.mem_erase_of_ne (fun e : c = a => h1 (e ▸ hc))).mpr (hs c (List.mem_cons_of_mem _ hc))
    rw [List.length_erase_of_mem ha] at this
    have hpos : 0 < fs.length := List.length_pos_of_mem ha
    rw [List.length_cons]; omega
/-- some next one is not among few -/
theorem next_free (x : Int) (fs : List Int) (h : (fs.length : Int) < p) : ∃ k : Nat, k ≤ fs.length ∧ (∀ j : Nat, j < k → (x + j) % p ∈ fs) ∧ (x + k) % p ∉ fs := by
  have ex : ∃ k : Nat, k ≤ fs.length ∧ (x + k) % p ∉ fs := by
    by_cases hx : ∃ k : Nat, k ≤ fs.length ∧ (x + k) % p ∉ fs
    · exact hx
    exfalso
    have all : ∀ k : Nat, k ≤ fs.length → (x + k) % p ∈ fs := fun k hk => Classical.byContradiction fun q => hx ⟨k, hk, q⟩
    have hn : ((List.range (fs.length + 1)).map fun k : Nat => (x + k) % p).Nodup := by
      rw [List.nodup_iff_pairwise_ne, List.pairwise_map]
      refine List.Pairwise.imp_of_mem ?_ List.pairwise_lt_range
      intro a c ha hc hac e
      rw [List.mem_range] at ha hc
      have q := Int.emod_eq_emod_iff_emod_sub_eq_zero.mp e
      obtain ⟨k, hk⟩ := Int.dvd_of_emod_eq_zero q
      have hk0 : k < 0 := by
        rcases Int.lt_or_le k 0 with z | z
        · exact z
        · have := Int.mul_nonneg (show (0 : Int) ≤ p by omega) z; omega
      have : p * k ≤ p * (-1) := Int.mul_le_mul_of_nonneg_left (by omega) (by omega)
      omega
    have := nodup_sub _ fs hn (by
      intro a ha
      obtain ⟨k, hk, rfl⟩ := List.mem_map.mp ha
      exact all k (by rw [List.mem_range] at hk; omega))
    rw [List.length_map, List.length_range] at this
    omega
  obtain ⟨k, hk, hx⟩ := ex
  induction k with
  | zero => exact ⟨0, hk, fun j hj => absurd hj (Nat.not_lt_zero j), hx⟩
  | succ k ih =>
    by_cases hc : ∃ j : Nat, j < k + 1 ∧ (x + j) % p ∉ fs
    · obtain ⟨j, hj, hjx⟩ := hc
      clear ih
      have key : ∀ n j : Nat, j ≤ n → j ≤ fs.length → (x + j) % p ∉ fs → ∃ k : Nat, k ≤ fs.length ∧ (∀ j : Nat, j < k → (x + j) % p ∈ fs) ∧ (x + k) % p ∉ fs := by
        intro n
        induction n with
        | zero => intro j hj hjl hjx; exact ⟨j, hjl, fun i hi => by omega, hjx⟩
        | succ n ihn =>
          intro j hj hjl hjx
          by_cases hq : ∃ i : Nat, i < j ∧ (x + i) % p ∉ fs
          · obtain ⟨i, hi, hix⟩ := hq
            exact ihn i (by omega) (by omega) hix
          · exact ⟨j, hjl, fun i hi => Classical.byContradiction fun z => hq ⟨i, hi, z⟩, hjx⟩
      exact key j j (Nat.le_refl j) (by omega) hjx
    · exact ⟨k + 1, hk, fun j hj => Classical.byContradiction fun z => hc ⟨j, hj, z⟩, hx⟩
theorem intsOf_map : ∀ ns : List Int, intsOf (ns.map PyData.int) = some ns
  | [] => rfl
  | n :: ns => by simp only [List.map_cons, intsOf, intsOf_map ns, Option.bind_some]
theorem srt_lt {l : List Int} (h : l.Nodup) : (srtI l).Pairwise (· < ·) := by
  have h1 := srtI_sorted l
  have h2 : (srtI l).Nodup := (srtI_perm l).nodup_iff.mpr h
  exact List.Pairwise.imp₂ (fun a c h1 h2 => by omega) h1 (List.nodup_iff_pairwise_ne.mp h2)
end

/-! ### unlike rests drawn, rising -/
section
variable {rest : Mem} {b p many : Int} {M : Mem} {fs : List Int}
theorem pt_in (h : Gd (rest ++ [cd (fs.map PyData.int)]) b M) (x : Int) : fIn false M (ze x) (.cel (rest.length + 4)) = some (.dat (.bool (decide (x ∈ fs)))) := by
  have e1 : items M (.cel (rest.length + 4)) = some (fs.map PyData.int) := by
    simp only [items, gd_get h, dats_map]
  have e2 : ∀ l : List Int, (l.map PyData.int).all flatD = true := by
    intro l; induction l with
    | nil => rfl
    | cons a l ih => simp [flatD]
  have e3 : inD (.int x) (fs.map PyData.int) = decide (x ∈ fs) := by
    unfold inD
    rw [List.any_map, Bool.eq_iff_iff, List.any_eq_true, decide_eq_true_eq]
    constructor
    · rintro ⟨y, hy, e⟩
      simp only [Function.comp, PyData.eqv, beq_iff_eq] at e
      rw [← e]; exact hy
    · intro hx
      exact ⟨x, hx, by simp [Function.comp, PyData.eqv]⟩
  simp [fIn, e1, e2, e3, flatD]
abbrev ptN : SS := sAsg (eOp (lift2 dMod) (eOp (lift2 dAdd) (eVar 5) (eC (.int 1))) (eVar 1)) (gNm 5)
theorem ptN_ok (h : Gd (rest ++ [cd (fs.map PyData.int)]) b M) (hp : 0 < p) (o0 o2 o4 : Option SV) : ∀ (k : Nat) (x : Int) (n : Nat), k < n → 0 ≤ x → x < p → (∀ j : Nat, j < k → (x + j) % p ∈ fs) → (x + k) % p ∉ fs →
    whl (bVal (eOp (fIn false) (eVar 5) (eVar 3))) ptN n [o0, some (ze p), o2, some (.cel (rest.length + 4)), o4, some (ze x)] M = some (.nx [o0, some (ze p), o2, some (.cel (rest.length + 4)), o4, some (ze ((x + k) % p))] M)
  | 0, x, n + 1, _, h0, h1, _, hx => by
    have e : (x + (0 : Nat)) % p = x := by rw [Int.natCast_zero, Int.add_zero]; exact Int.emod_eq_of_lt h0 h1
    rw [e] at hx ⊢
    refine whl_end (M1 := M) ?_
    have hd : decide (x ∈ fs) = false := decide_eq_false hx
    have e2 := pt_in h x
    rw [hd] at e2
    exact bVal_eq (eOp_eq (M1 := M) (x := ze x) (y := .cel (rest.length + 4)) rfl rfl e2)
  | k + 1, x, n + 1, hk, h0, h1, hj, hx => by
    have m0 := hj 0 (by omega)
    rw [Int.natCast_zero, Int.add_zero, Int.emod_eq_of_lt h0 h1] at m0
    have sh : ∀ j : Nat, ((x + 1) % p + j) % p = (x + (j + 1 : Nat)) % p := by
      intro j
      rw [Int.emod_add_emod]
      congr 1; push_cast; omega
    have ih := ptN_ok h hp o0 o2 o4 k ((x + 1) % p) n (by omega) (Int.emod_nonneg _ (by omega)) (Int.emod_lt_of_pos _ hp) (fun j hjk => by rw [sh]; exact hj (j + 1) (by omega)) (by rw [sh]; exact hx)
    rw [sh] at ih
    refine whl_nx (M1 := M) (M2 := M) ?_ (sAsg_eq (M1 := M) (eOp_eq (M1 := M) (eOp_eq (M1 := M) (x := ze x) (y := ze 1) rfl rfl l_add) (y := ze p) rfl (l_mod hp)) rfl) ih
    have hd : decide (x ∈ fs) = true := decide_eq_true m0
    rw [← hd]
    exact bVal_eq (eOp_eq (M1 := M) (x := ze x) (y := .cel (rest.length + 4)) rfl rfl (pt_in h x))
theorem xxs_ok (h : Gd rest b M) (hb : b < 15000000) (hp : 11 ≤ p ∧ p ≤ 1000) (hm0 : 0 ≤ many) (hm : many ≤ 11) : ∃ (xs : List Int) (M' : Mem), F_xxs [.cel 3, ze p, ze many] M = some (.dat (.tuple (xs.map PyData.int)), M') ∧ (xs.length : Int) = many ∧ xs.Pairwise (· < ·) ∧ (∀ z ∈ xs, 0 ≤ z ∧ z < p) ∧ Gd rest (b + 3 * many) M' := by
  have hlen := gd_len h
  obtain ⟨ρ', M2, e2, zs, o, o', rfl, hzl, nd, hz, h2⟩ := loop_inv (g := gNm 4) (s := (sSeq (sAsg (eOp fIx (eLst (aCons (eC (.int 0)) (aCons (eOp (lift2 dSub) (eVar 1) (eC (.int 1))) (aCons (eCall F_xnext (aCons (eVar 0) (aCons (eVar 1) aNil))) (aCons (eCall F_xnext (aCons (eVar 0) (aCons (eVar 1) aNil))) aNil))))) (eCall F_xnext (aCons (eVar 0) (aCons (eC (.int 4)) aNil)))) (gNm 5))
    (sSeq (whl (bVal (eOp (fIn false) (eVar 5) (eVar 3))) ptN 1000)
    (sApp (eVar 3) (eVar 5)))))
    (fun n ρ M => ∃ (zs : List Int) (o o' : Option SV), ρ = [some (.cel 3), some (ze p), some (ze many), some (.cel (rest.length + 4)), o, o'] ∧ zs.length = n ∧ zs.Nodup ∧ (∀ z ∈ zs, 0 ≤ z ∧ z < p) ∧ Gd (rest ++ [cd (zs.map PyData.int)]) (b + 3 * n) M)
    (rangeD 0 many) 0 [some (.cel 3), some (ze p), some (ze many), some (.cel (rest.length + 4)), none, none] (M ++ [some []]) ⟨[], none, none, rfl, rfl, List.nodup_nil, (fun _ z => nomatch z), (gd_new h _).up (by omega)⟩ (by
      intro i d ρ M hd hI
      obtain ⟨zs, o, o', rfl, hzl, nd, hz, hg⟩ := hI
      obtain ⟨w, rfl, w0, w1⟩ := range_at hd
      have hi : (i : Int) < many := by
        obtain ⟨q, _⟩ := List.getElem?_eq_some_iff.mp hd
        have := rg_len many; omega
      obtain ⟨r1, M1, e1, a1, b1, h1⟩ := next_g (many := p) hg (by omega) (by omega) (by omega)
      obtain ⟨r2, M2, e2, a2, b2, h2⟩ := next_g (many := p) h1 (by omega) (by omega) (by omega)
      obtain ⟨r3, M3, e3, a3, b3, h3⟩ := next_g (many := 4) h2 (by omega) (by omega) (by omega)
      have key : ∃ z, atI [PyData.int 0, .int (p - 1), .int r1, .int r2] r3 = some (.int z) ∧ 0 ≤ z ∧ z < p := by
        have : r3 = 0 ∨ r3 = 1 ∨ r3 = 2 ∨ r3 = 3 := by omega
        rcases this with rfl | rfl | rfl | rfl
        · exact ⟨0, rfl, by omega, by omega⟩
        · exact ⟨p - 1, rfl, by omega, by omega⟩
        · exact ⟨r1, rfl, a1, b1⟩
        · exact ⟨r2, rfl, a2, b2⟩
      obtain ⟨z, k1, k2, k3⟩ := key
      obtain ⟨k, hk, hj, hx⟩ := next_free (p := p) z zs (by omega)
      have el : (sAsg (eOp fIx (eLst (aCons (eC (.int 0)) (aCons (eOp (lift2 dSub) (eVar 1) (eC (.int 1))) (aCons (eCall F_xnext (aCons (eVar 0) (aCons (eVar 1) aNil))) (aCons (eCall F_xnext (aCons (eVar 0) (aCons (eVar 1) aNil))) aNil))))) (eCall F_xnext (aCons (eVar 0) (aCons (eC (.int 4)) aNil)))) (gNm 5)) [some (.cel 3), some (ze p), some (ze many), some (.cel (rest.length + 4)), some (ze w), o'] M = some (.nx [some (.cel 3), some (ze p), some (ze many), some (.cel (rest.length + 4)), some (ze w), some (ze z)] M3) := by
        walk_at "sm"
      have ew := ptN_ok h3 (by omega) (some (.cel 3)) (some (ze many)) (some (ze w)) k z 1000 (by omega) k2 k3 hj hx
      obtain ⟨M4, e4, h4⟩ := grow (i := 3) (el := eVar 5) (d := .int ((z + k) % p)) (ρ := [some (.cel 3), some (ze p), some (ze many), some (.cel (rest.length + 4)), some (ze w), some (ze ((z + k) % p))]) h3 rfl rfl h3 (by rw [List.length_map]; omega)
      refine ⟨_, _, _, _, rfl, sSeq_nx el (sSeq_nx ew e4), zs ++ [(z + k) % p], some (ze w), _, rfl, by simp [hzl], ?_, fun y hy => ?_, ?_⟩
      · rw [List.nodup_append]
        refine ⟨nd, List.nodup_cons.mpr ⟨List.not_mem_nil, List.nodup_nil⟩, fun a ha c hc e => ?_⟩
        rw [List.mem_singleton] at hc
        subst hc; subst e; exact hx ha
      · rcases List.mem_append.mp hy with q | q
        · exact hz y q
        · rw [List.mem_singleton] at q; rw [q]; exact ⟨Int.emod_nonneg _ (by omega), Int.emod_lt_of_pos _ (by omega)⟩
      · rw [List.map_append]
        exact h4.up (by push_cast; omega))
  obtain ⟨e3, h3⟩ := held (i := 3) (ρ := [some (.cel 3), some (ze p), some (ze many), some (.cel (rest.length + 4)), none, none]) (M := M ++ [some []]) (s := sFor (iR1 (aCons (eVar 2) aNil)) (gNm 4) _) (sFor_eq (M1 := M ++ [some []]) (iR1_eq (j := many) rfl (by omega) (by omega)) e2) h2 rfl
  have hl := rg_len many
  have sr := srtI_perm zs
  refine ⟨srtI zs, _, mkF_rt (d := .tuple ((srtI zs).map PyData.int)) (M1 := M2.set (rest.length + 4) none) ?_, by rw [sr.length_eq]; omega, srt_lt nd, fun x hx => hz x (sr.mem_iff.mp hx), ?_⟩
  · refine sSeq_nx (M1 := M ++ [some []]) (ρ1 := [some (.cel 3), some (ze p), some (ze many), some (.cel (rest.length + 4)), none, none]) ?_ (sSeq_nx e3 ?_)
    · rw [← hlen]; rfl
    · refine sRet_eq (eCB_eq (xs := [.dat (.list ((srtI zs).map PyData.int))]) (aCons_eq (eCB_eq (xs := [.dat (.list (zs.map PyData.int))]) rfl ?_) rfl) rfl)
      show ((intsOf (zs.map PyData.int)).bind fun ns => some (SV.dat (.list ((srtI ns).map PyData.int)))) = _
      rw [intsOf_map]; rfl
  · rw [hlen]
    exact (gd_cut h3).up (by omega)
end

end Lk38

namespace Lk38
open PySem Sm L2
local macro_rules
  | `(tactic| walk_at "le") => `(tactic| ((try simp only [List.length_cons, List.length_nil, List.length_append, List.length_map]); omega))
local macro_rules
  | `(tactic| walk_at "smb") => `(tactic| first
    | with_reducible assumption
    | with_reducible rfl
    | assumption
    | rfl
    | (simp only [decide_eq_true_eq, decide_eq_false_iff_not, beq_iff_eq, Bool.not_eq_true', Bool.not_eq_false', beq_eq_false_iff_ne, Bool.and_eq_true, Bool.or_eq_true, Bool.not_eq_true, Bool.not_eq_false, ne_eq, Bool.and_eq_false_imp, Bool.or_eq_false_iff]; omega))
local macro_rules
  | `(tactic| walk_at "smf") => `(tactic| fail "no call")
local macro_rules
  | `(tactic| walk_at "sml") => `(tactic| first
    | with_reducible assumption
    | with_reducible exact l_add
    | with_reducible exact l_sub
    | with_reducible exact l_eq
    | with_reducible exact l_ne
    | with_reducible exact l_lt
    | with_reducible exact l_le
    | with_reducible exact l_gt
    | with_reducible exact l_ge
    | with_reducible exact l_eqSS
    | with_reducible exact l_neSS
    | with_reducible exact l_eqBS
    | with_reducible exact l_neBS
    | with_reducible exact l_eqB
    | with_reducible exact l_neB
    | with_reducible exact l_eqS
    | with_reducible exact l_neS
    | with_reducible exact l_neg
    | with_reducible exact isi_int _
    | with_reducible exact isi_bool _
    | with_reducible exact isi_tup _
    | with_reducible exact l_lenL
    | with_reducible exact l_lenT
    | with_reducible exact l_slL
    | with_reducible exact l_slT
    | ((with_reducible apply l_mod); (walk_at "smo"))
    | ((with_reducible apply l_mul); (walk_at "smo"))
    | ((with_reducible apply l_div); (walk_at "smo"); (walk_at "smo"))
    | ((with_reducible apply l_addT); rfl)
    | ((with_reducible apply l_addL); rfl)
    | ((with_reducible apply l_ixL); first | assumption | rfl)
    | ((with_reducible apply l_ixT); first | assumption | rfl)
    | ((with_reducible apply one_eq); (walk_at "sml"))
    | with_reducible assumption
    | rfl)
local macro_rules
  | `(tactic| walk_at "smo") => `(tactic| first | assumption | omega)
local macro_rules
  | `(tactic| walk_at "sm") => `(tactic| first
    | with_reducible assumption
    | with_reducible exact aNil_eq
    | with_reducible exact eC_eq
    | with_reducible exact sNext_eq
    | with_reducible exact eD0_eq
    | ((with_reducible apply eD1_eq); (walk_at "sm"))
    | ((with_reducible apply eC_e); rfl)
    | with_reducible exact oNone_eq
    | ((with_reducible apply eVar_eq); rfl)
    | ((with_reducible apply aCons_eq); (walk_at "sm"); (walk_at "sm"))
    | ((with_reducible apply eOp_eq); (walk_at "sm"); (walk_at "sm"); (walk_at "sml"))
    | ((with_reducible apply eUn_eq); (walk_at "sm"); (walk_at "sml"))
    | ((with_reducible apply eCB_eq); (walk_at "sm"); (walk_at "sml"))
    | ((with_reducible apply eCall_eq); (walk_at "sm"); (first | with_reducible assumption | walk_at "smf"))
    | ((with_reducible apply eTup_e); (walk_at "sm"); rfl; rfl)
    | ((with_reducible apply eLst_e); (walk_at "sm"); rfl; rfl)
    | ((with_reducible apply oSome_eq); (walk_at "sm"))
    | ((with_reducible apply eSl_eq); (walk_at "sm"); (walk_at "sm"); (walk_at "sm"); (walk_at "sml"))
    | ((with_reducible apply eNot_eq); (walk_at "sm"))
    | ((with_reducible apply bNot_eq); (walk_at "sm"))
    | ((with_reducible apply bVal_eq); (walk_at "sm"))
    | ((with_reducible apply bTru_b); (walk_at "sm"))
    | ((with_reducible apply eChain_e); (walk_at "sm"); (walk_at "sm"); (walk_at "sml"); (walk_at "sm"); (walk_at "sml"))
    | ((with_reducible apply eChain3_e); (walk_at "sm"); (walk_at "sm"); (walk_at "sml"); (walk_at "sm"); (walk_at "sml"); (walk_at "sm"); (walk_at "sml"))
    | ((with_reducible apply bOr_e); (walk_at "sm"); (first | ((apply ite_T); (walk_at "smb"); rfl) | ((apply ite_F); (walk_at "smb"); (walk_at "sm")) | ((apply or_gen); (walk_at "sm"))))
    | ((with_reducible apply bAnd_e); (walk_at "sm"); (first | ((apply ite_F); (walk_at "smb"); rfl) | ((apply ite_T); (walk_at "smb"); (walk_at "sm")) | ((apply and_gen); (walk_at "sm"))))
    | ((with_reducible apply eOr_e); (walk_at "sm"); (first | ((apply ite_T); (walk_at "smb"); rfl) | ((apply ite_F); (walk_at "smb"); (walk_at "sm")) | ((apply eor_gen); (walk_at "sm"))))
    | ((with_reducible apply eAnd_e); (walk_at "sm"); (first | ((apply ite_F); (walk_at "smb"); rfl) | ((apply ite_T); (walk_at "smb"); (walk_at "sm")) | ((apply eand_gen); (walk_at "sm"))))
    | ((with_reducible apply eIf_e); (walk_at "sm"); (first | ((apply ite_T); (walk_at "smb"); (walk_at "sm")) | ((apply ite_F); (walk_at "smb"); (walk_at "sm"))))
    | ((with_reducible apply sIf_e); (walk_at "sm"); (first | ((apply ite_T); (walk_at "smb"); (walk_at "sm")) | ((apply ite_F); (walk_at "smb"); (walk_at "sm"))))
    | ((with_reducible apply sSeq_e); (walk_at "sm"); (first | with_reducible exact seqK_rt | ((with_reducible apply seqK_nx); (walk_at "sm")) | ((with_reducible refine Eq.trans seqK_rt ?_); rfl)))
    | ((with_reducible apply sRet_eq); (walk_at "sm"))
    | ((with_reducible apply sAsg_eq); (walk_at "sm"); (walk_at "smg"))
    | with_reducible assumption
    | walk_at "smx")
local macro_rules
  | `(tactic| walk_at "smx") => `(tactic| fail "no step")
local macro_rules
  | `(tactic| walk_at "smg") => `(tactic| first
    | ((with_reducible apply gNm_e); ((dsimp only [List.set]) <;> rfl))
    | ((with_reducible apply gTp_e); rfl; ((dsimp only [setAll, List.set]) <;> rfl))
    | rfl)

abbrev pD (q : Int × Int) : PyData := .tuple [.int q.1, .int q.2]

/-! ### the rest by which a rest comes to 1 -/
theorem con_turn {p a h l : Int} {hf lf : Int} {o : Option SV} {M : Mem} (hl : 0 < l) (hl2 : l < 2 ^ 64) (ht : -(2 ^ 64) < h / l ∧ h / l < 2 ^ 64) :
    (sSeq (sAsg (eOp (lift2 dDiv) (eVar 2) (eVar 3)) (gNm 6))
    (sSeq (sPar 2 3 (aCons (eVar 3) (aCons (eOp (lift2 dSub) (eVar 2) (eOp (lift2 dMul) (eVar 6) (eVar 3))) aNil)))
    (sPar 4 5 (aCons (eVar 5) (aCons (eOp (lift2 dSub) (eVar 4) (eOp (lift2 dMul) (eVar 6) (eVar 5))) aNil)))))
    [some (ze p), some (ze a), some (ze h), some (ze l), some (ze hf), some (ze lf), o] M =
    some (.nx [some (ze p), some (ze a), some (ze l), some (ze (h - h / l * l)), some (ze lf), some (ze (hf - h / l * lf)), some (ze (h / l))] M) := by
  refine sSeq_nx (M1 := M) (sAsg_eq (M1 := M) (eOp_eq (M1 := M) (x := ze h) (y := ze l) rfl rfl (l_div hl hl2)) rfl) ?_
  refine sSeq_nx (M1 := M) (sPar_eq (M1 := M) (aCons_eq (x := ze l) (M1 := M) rfl (aCons_eq (M1 := M) (eOp_eq (M1 := M) (x := ze h) rfl (eOp_eq (M1 := M) (x := ze (h / l)) (y := ze l) rfl rfl (l_mul (.inl ht))) l_sub) rfl))) ?_
  exact sPar_eq (M1 := M) (aCons_eq (x := ze lf) (M1 := M) rfl (aCons_eq (M1 := M) (eOp_eq (M1 := M) (x := ze hf) rfl (eOp_eq (M1 := M) (x := ze (h / l)) (y := ze lf) rfl rfl (l_mul (.inl ht))) l_sub) rfl))
theorem con_loop (p a : Int) (M : Mem) : ∀ (n : Nat) (h l : Nat) (hf lf : Int) (o : Option SV), l < n → h < 2 ^ 60 → l < 2 ^ 60 → Nat.gcd h l = 1 → p ∣ a * hf - (h : Int) → p ∣ a * lf - (l : Int) →
    ∃ x y z, whl (bTru (eVar 3)) (sSeq (sAsg (eOp (lift2 dDiv) (eVar 2) (eVar 3)) (gNm 6))
    (sSeq (sPar 2 3 (aCons (eVar 3) (aCons (eOp (lift2 dSub) (eVar 2) (eOp (lift2 dMul) (eVar 6) (eVar 3))) aNil)))
    (sPar 4 5 (aCons (eVar 5) (aCons (eOp (lift2 dSub) (eVar 4) (eOp (lift2 dMul) (eVar 6) (eVar 5))) aNil))))) n
    [some (ze p), some (ze a), some (ze (h : Int)), some (ze (l : Int)), some (ze hf), some (ze lf), o] M = some (.nx [some (ze p), some (ze a), some (ze 1), some (ze 0), some (ze x), some (ze y), z] M) ∧ p ∣ a * x - 1
  | 0, h, l, hf, lf, o, hn, _, _, _, _, _ => by omega
  | n + 1, h, l, hf, lf, o, hn, hh, hl2, hg, d1, d2 => by
    by_cases hl : l = 0
    · subst hl
      rw [Nat.gcd_zero_right] at hg
      subst hg
      exact ⟨hf, lf, o, rfl, d1⟩
    · have hl0 : 0 < l := Nat.pos_of_ne_zero hl
      have hq : ((h : Int) / (l : Int)) = ((h / l : Nat) : Int) := (Int.natCast_ediv h l).symm ▸ rfl
      have hqb : (h / l : Nat) ≤ h := Nat.div_le_self h l
      have hr : (h : Int) - (h : Int) / (l : Int) * (l : Int) = ((h % l : Nat) : Int) := by
        have e := Nat.div_add_mod h l
        have e' : (l : Int) * ((h / l : Nat) : Int) + ((h % l : Nat) : Int) = (h : Int) := by exact_mod_cast e
        rw [hq, Int.mul_comm]
        omega
      have turn := con_turn (p := p) (a := a) (h := (h : Int)) (l := (l : Int)) (hf := hf) (lf := lf) (o := o) (M := M) (by omega) (by omega) (by rw [hq]; generalize h / l = q at hqb; omega)
      rw [hr] at turn
      have hlt : h % l < l := Nat.mod_lt h hl0
      have g2 : Nat.gcd l (h % l) = 1 := by
        rw [Nat.gcd_comm, ← Nat.gcd_rec, Nat.gcd_comm]; exact hg
      have d3 : p ∣ a * (hf - (h : Int) / (l : Int) * lf) - ((h % l : Nat) : Int) := by
        have e : a * (hf - (h : Int) / (l : Int) * lf) - ((h % l : Nat) : Int) = (a * hf - (h : Int)) - (h : Int) / (l : Int) * (a * lf - (l : Int)) := by
          rw [← hr, Int.mul_sub, Int.mul_sub]
          have : a * ((h : Int) / (l : Int) * lf) = (h : Int) / (l : Int) * (a * lf) := by
            rw [← Int.mul_assoc, ← Int.mul_assoc, Int.mul_comm a]
          rw [this]; omega
        rw [e]
        exact Int.dvd_sub d1 (Int.dvd_mul_of_dvd_right d2)
      obtain ⟨x, y, z, e, hd⟩ := con_loop p a M n l (h % l) lf (hf - (h : Int) / (l : Int) * lf) (some (ze ((h : Int) / (l : Int)))) (by omega) hl2 (by omega) g2 d2 d3
      refine ⟨x, y, z, ?_, hd⟩
      have tst : bTru (eVar 3) [some (ze p), some (ze a), some (ze (h : Int)), some (ze (l : Int)), some (ze hf), some (ze lf), o] M = some (true, M) := by
        show some ((l : Int) != 0, M) = _
        rw [show ((l : Int) != 0) = true from by simp; omega]
      exact whl_nx tst turn e
theorem contrary_ok {p : Nat} {a : Nat} {M : Mem} (hp : 1 < p) (hp2 : p < 1000) (hg : Nat.gcd p (a % p) = 1) :
    ∃ b : Nat, 0 < b ∧ b < p ∧ (a * b) % p = 1 ∧ F_contrary [ze (p : Int), ze (a : Int)] M = some (ze (b : Int), M) := by
  obtain ⟨x, y, z, e, hd⟩ := con_loop (p : Int) (a : Int) M 1000 p (a % p) 0 1 none (Nat.lt_trans (Nat.mod_lt a (by omega)) hp2) (by omega) (Nat.lt_trans (Nat.mod_lt a (by omega)) (by omega)) hg
    (by rw [Int.mul_zero, Int.zero_sub]; exact Int.dvd_neg.mpr (Int.dvd_refl _))
    (by
      rw [Int.mul_one]
      exact Int.dvd_self_sub_of_emod_eq (Int.natCast_emod a p).symm)
  have hx0 : 0 ≤ x % (p : Int) := Int.emod_nonneg _ (by omega)
  have hx1 : x % (p : Int) < (p : Int) := Int.emod_lt_of_pos _ (by omega)
  have key : ((a : Int) * (x % (p : Int))) % (p : Int) = 1 := by
    rw [Int.mul_emod, Int.emod_emod, ← Int.mul_emod]
    have := Int.emod_emod_of_dvd
    have h1 : ((a : Int) * x) % (p : Int) = 1 % (p : Int) := (Int.emod_eq_emod_iff_emod_sub_eq_zero).mpr (Int.emod_eq_zero_of_dvd hd)
    rw [h1]
    exact Int.emod_eq_of_lt (by omega) (by omega)
  obtain ⟨b, hb⟩ := Int.eq_ofNat_of_zero_le hx0
  rw [hb] at key hx1
  have key2 : (a * b) % p = 1 := by exact_mod_cast key
  have hb0 : 0 < b := by
    rcases Nat.eq_zero_or_pos b with h | h
    · subst h; simp at key2
    · exact h
  refine ⟨b, hb0, by omega, key2, mkF_rtL (M1 := M) rfl ?_⟩
  refine sSeq_nx (M1 := M) (ρ1 := [some (ze (p : Int)), some (ze (a : Int)), some (ze (p : Int)), some (ze ((a % p : Nat) : Int)), none, none, none]) ?_ ?_
  · have e : (a : Int) % (p : Int) = ((a % p : Nat) : Int) := (Int.natCast_emod a p).symm
    rw [← e]
    exact sPar_eq (M1 := M) (aCons_eq (x := ze (p : Int)) (M1 := M) rfl (aCons_eq (M1 := M) (eOp_eq (M1 := M) (x := ze (a : Int)) (y := ze (p : Int)) rfl rfl (l_mod (by omega))) rfl))
  · refine sSeq_nx (M1 := M) (ρ1 := [some (ze (p : Int)), some (ze (a : Int)), some (ze (p : Int)), some (ze ((a % p : Nat) : Int)), some (ze 0), some (ze 1), none]) rfl ?_
    refine sSeq_nx (M1 := M) e ?_
    refine sRet_eq ?_
    have r := eOp_eq (f := lift2 dMod) (a := eVar 4) (b := eVar 0) (ρ := [some (ze (p : Int)), some (ze (a : Int)), some (ze 1), some (ze 0), some (ze x), some (ze y), z]) (M := M) (M1 := M) (M2 := M) (x := ze x) (y := ze (p : Int)) rfl rfl (l_mod (by omega))
    rw [r, hb]

/-! ### what a row is worth -/
def ev (x : Int) : List Int → Int
  | [] => 0
  | r :: rs => r + x * ev x rs
def hor (p x : Int) : List Int → Int
  | [] => 0
  | r :: rs => (hor p x rs * x + r) % p
theorem emod_congr {p a b : Int} (h : p ∣ a - b) : a % p = b % p := Int.emod_eq_emod_iff_emod_sub_eq_zero.mpr (Int.emod_eq_zero_of_dvd h)
theorem dvd_emod (p a : Int) : p ∣ a % p - a := by
  have := Int.emod_add_mul_ediv a p
  exact ⟨-(a / p), by rw [Int.mul_neg]; omega⟩
theorem hor_ev (p x : Int) : ∀ rs : List Int, hor p x rs = ev x rs % p
  | [] => by simp [hor, ev]
  | r :: rs => by
    unfold hor ev
    rw [hor_ev p x rs]
    apply emod_congr
    obtain ⟨k, hk⟩ := dvd_emod p (ev x rs)
    refine ⟨k * x, ?_⟩
    have : ev x rs % p = ev x rs + p * k := by omega
    rw [this, Int.add_mul, Int.mul_assoc, Int.mul_comm x]; omega
theorem hor_lt {p x : Int} (hp : 0 < p) : ∀ rs : List Int, 0 ≤ hor p x rs ∧ hor p x rs < p
  | [] => ⟨Int.le_refl 0, hp⟩
  | _ :: _ => ⟨Int.emod_nonneg _ (by omega), Int.emod_lt_of_pos _ hp⟩
theorem worth_loop {p x : Int} {M : Mem} {v1 : SV} (hp : 0 < p) (hx : -(2 ^ 64) < x ∧ x < 2 ^ 64) : ∀ (rs : List Int) (tail : List PyData) (o : Option SV) (w : Int), ∃ o', loop (gNm 4) (sAsg (eOp (lift2 dMod) (eOp (lift2 dAdd) (eOp (lift2 dMul) (eVar 3) (eVar 2)) (eVar 4)) (eVar 0)) (gNm 3)) ((rs.map PyData.int).reverse ++ tail) [some (ze p), some v1, some (ze x), some (ze w), o] M =
    loop (gNm 4) (sAsg (eOp (lift2 dMod) (eOp (lift2 dAdd) (eOp (lift2 dMul) (eVar 3) (eVar 2)) (eVar 4)) (eVar 0)) (gNm 3)) tail [some (ze p), some v1, some (ze x), some (ze (rs.foldr (fun r w => (w * x + r) % p) w)), o'] M
  | [], tail, o, w => ⟨o, rfl⟩
  | r :: rs, tail, o, w => by
    obtain ⟨o1, e⟩ := worth_loop hp hx rs (.int r :: tail) o w
    refine ⟨some (ze r), ?_⟩
    rw [List.map_cons, List.reverse_cons, List.append_assoc, List.singleton_append, e]
    refine loop_nx (M1 := M) (M2 := M) rfl (sAsg_eq (M1 := M) (eOp_eq (M1 := M) (eOp_eq (M1 := M) (eOp_eq (M1 := M) (x := ze _) (y := ze x) rfl rfl (l_mul (.inr hx))) (y := ze r) rfl l_add) (y := ze p) rfl (l_mod hp)) rfl) rfl
theorem foldr_hor (p x : Int) : ∀ rs : List Int, rs.foldr (fun r w => (w * x + r) % p) 0 = hor p x rs
  | [] => rfl
  | r :: rs => by rw [List.foldr_cons, foldr_hor p x rs]; rfl
theorem worth_body {p x : Int} {rs : List Int} {M : Mem} {v1 : SV} (hv : v1 = .dat (.tuple (rs.map PyData.int)) ∨ v1 = .dat (.list (rs.map PyData.int))) (hp : 0 < p) (hx : -(2 ^ 64) < x ∧ x < 2 ^ 64) : F_worth_at [ze p, v1, ze x] M = some (ze (hor p x rs), M) := by
  obtain ⟨o', e⟩ := worth_loop (M := M) (v1 := v1) hp hx rs [] none 0
  rw [List.append_nil, foldr_hor] at e
  refine mkF_rtL (M1 := M) rfl (sSeq_nx (M1 := M) (ρ1 := [some (ze p), some v1, some (ze x), some (ze 0), none]) rfl ?_)
  refine sSeq_nx (M1 := M) (ρ1 := [some (ze p), some v1, some (ze x), some (ze (hor p x rs)), o']) (sFor_eq (M1 := M) (ds := (rs.map PyData.int).reverse) ?_ e) rfl
  rcases hv with rfl | rfl <;> rfl
theorem worth_ok {p x : Int} {rs : List Int} {M : Mem} (hp : 0 < p) (hx : -(2 ^ 64) < x ∧ x < 2 ^ 64) : F_worth_at [ze p, .dat (.tuple (rs.map PyData.int)), ze x] M = some (ze (hor p x rs), M) := worth_body (.inl rfl) hp hx
theorem worth_okL {p x : Int} {rs : List Int} {M : Mem} (hp : 0 < p) (hx : -(2 ^ 64) < x ∧ x < 2 ^ 64) : F_worth_at [ze p, .dat (.list (rs.map PyData.int)), ze x] M = some (ze (hor p x rs), M) := worth_body (.inr rfl) hp hx

/-! ### rows added -/
def plusL (p f : Int) (a b : List Int) : List Int := (a.zip b).map fun q => (q.1 + f * q.2) % p
theorem plus_len {p f : Int} {a b : List Int} (h : a.length = b.length) : (plusL p f a b).length = a.length := by simp [plusL, h]
theorem plus_in {p f : Int} {a b : List Int} (hp : 0 < p) : ∀ z ∈ plusL p f a b, 0 ≤ z ∧ z < p := by
  intro z hz
  obtain ⟨q, _, rfl⟩ := List.mem_map.mp hz
  exact ⟨Int.emod_nonneg _ (by omega), Int.emod_lt_of_pos _ hp⟩
theorem zipD_ints (a b : List Int) : zipD (a.map PyData.int) (b.map PyData.int) = (a.zip b).map fun q => PyData.tuple [.int q.1, .int q.2] := by
  unfold zipD
  rw [List.zip_map, List.map_map]; rfl
theorem ev_plus (p x f : Int) : ∀ a b : List Int, a.length = b.length → p ∣ ev x (plusL p f a b) - (ev x a + f * ev x b)
  | [], [], _ => ⟨0, by simp [plusL, ev]⟩
  | a :: as, b :: bs, h => by
    obtain ⟨k, hk⟩ := ev_plus p x f as bs (by simpa using h)
    obtain ⟨j, hj⟩ := dvd_emod p (a + f * b)
    refine ⟨j + x * k, ?_⟩
    have e1 : plusL p f (a :: as) (b :: bs) = ((a + f * b) % p) :: plusL p f as bs := rfl
    have e2 : ev x (plusL p f as bs) = ev x as + f * ev x bs + p * k := by omega
    have e3 : (a + f * b) % p = a + f * b + p * j := by omega
    rw [e1]
    show (a + f * b) % p + x * ev x (plusL p f as bs) - ((a + x * ev x as) + f * (b + x * ev x bs)) = _
    rw [e2, e3, Int.mul_add, Int.mul_add, Int.mul_add, Int.mul_add]
    have s1 : x * (f * ev x bs) = f * (x * ev x bs) := by rw [← Int.mul_assoc, ← Int.mul_assoc, Int.mul_comm x f]
    have s2 : x * (p * k) = p * (x * k) := by rw [← Int.mul_assoc, ← Int.mul_assoc, Int.mul_comm x p]
    rw [s1, s2]; omega
  | [], _ :: _, h => by simp at h
  | _ :: _, [], h => by simp at h
theorem hor_plus {p x f : Int} {a b : List Int} (h : a.length = b.length) : hor p x (plusL p f a b) = (hor p x a + f * hor p x b) % p := by
  rw [hor_ev, hor_ev, hor_ev]
  apply emod_congr
  obtain ⟨k, hk⟩ := ev_plus p x f a b h
  obtain ⟨i, hi⟩ := dvd_emod p (ev x a)
  obtain ⟨j, hj⟩ := dvd_emod p (ev x b)
  refine ⟨k - i - f * j, ?_⟩
  have e1 : ev x a % p = ev x a + p * i := by omega
  have e2 : ev x b % p = ev x b + p * j := by omega
  have e3 : ev x (plusL p f a b) = ev x a + f * ev x b + p * k := by omega
  have s : f * (p * j) = p * (f * j) := by rw [← Int.mul_assoc, ← Int.mul_assoc, Int.mul_comm f p]
  rw [e1, e2, e3, Int.mul_add, s, Int.mul_sub, Int.mul_sub]; omega

/-! ### rows as sums of powers: a row that is worth nought at as many unlike points as it has rests is noughts -/
def PrP (p : Nat) : Prop := 2 ≤ p ∧ p < 1000 ∧ ∀ a : Nat, 0 < a → a < p → Nat.gcd p a = 1
theorem PrP.gcd {p : Nat} (h : PrP p) {a : Nat} (ha : ¬ p ∣ a) : Nat.gcd p a = 1 := by
  have h0 : 0 < a % p := Nat.pos_of_ne_zero fun e => ha (Nat.dvd_of_mod_eq_zero e)
  have := h.2.2 (a % p) h0 (Nat.mod_lt a (by have := h.1; omega))
  rw [Nat.gcd_rec, Nat.gcd_comm]; exact this
theorem PrP.mul {p : Nat} (h : PrP p) {a b : Int} (e : (p : Int) ∣ a * b) (ha : ¬ (p : Int) ∣ a) : (p : Int) ∣ b := by
  rw [Int.ofNat_dvd_left] at e ha ⊢
  rw [Int.natAbs_mul] at e
  exact Nat.Coprime.dvd_of_dvd_mul_left (h.gcd ha) e
theorem apart {p : Nat} {x y : Int} (hx : 0 ≤ x ∧ x < p) (hy : 0 ≤ y ∧ y < p) (h : x ≠ y) : ¬ (p : Int) ∣ x - y := fun ⟨k, hk⟩ => by
  have : k = 0 := by
    rcases Int.lt_trichotomy k 0 with q | q | q
    · have : (p : Int) * k ≤ (p : Int) * (-1) := Int.mul_le_mul_of_nonneg_left (by omega) (by omega)
      omega
    · exact q
    · have : (p : Int) * 1 ≤ (p : Int) * k := Int.mul_le_mul_of_nonneg_left (by omega) (by omega)
      omega
  subst this
  omega
/-- what is left when a root is taken out -/
def sd (a : Int) : List Int → List Int
  | [] => []
  | [_] => []
  | _ :: c :: t => ev a (c :: t) :: sd a (c :: t)
theorem sd_len (a : Int) : ∀ (c : Int) (t : List Int), (sd a (c :: t)).length = t.length
  | _, [] => rfl
  | _, c :: t => by rw [sd, List.length_cons, sd_len a c t, List.length_cons]
theorem sd_ev (a x : Int) : ∀ cs : List Int, ev x cs - ev a cs = (x - a) * ev x (sd a cs)
  | [] => by simp [ev, sd]
  | [c] => by simp [ev, sd]
  | b :: c :: t => by
    have ih := sd_ev a x (c :: t)
    rw [sd]
    show (b + x * ev x (c :: t)) - (b + a * ev a (c :: t)) = (x - a) * (ev a (c :: t) + x * ev x (sd a (c :: t)))
    generalize ev x (c :: t) = X at *
    generalize ev a (c :: t) = Y at *
    generalize ev x (sd a (c :: t)) = Z at *
    have e : X = Y + (x - a) * Z := by omega
    rw [e, Int.mul_add, Int.mul_add]
    have s : x * ((x - a) * Z) = (x - a) * (x * Z) := by rw [← Int.mul_assoc, ← Int.mul_assoc, Int.mul_comm x]
    have s2 : (x - a) * Y = x * Y - a * Y := Int.sub_mul x a Y
    rw [s, s2]
    omega
theorem sd_all {p a : Int} : ∀ cs : List Int, p ∣ ev a cs → (∀ q ∈ sd a cs, p ∣ q) → ∀ c ∈ cs, p ∣ c
  | [], _, _, c, h => by cases h
  | [b], h, _, c, hc => by
    rw [List.mem_singleton] at hc
    subst hc
    simpa [ev] using h
  | b :: c :: t, h, hq, d, hd => by
    have h1 : p ∣ ev a (c :: t) := hq _ (by rw [sd]; exact List.mem_cons_self)
    have ih := sd_all (c :: t) h1 fun q hq' => hq q (by rw [sd]; exact List.mem_cons_of_mem _ hq')
    rcases List.mem_cons.mp hd with e | e
    · subst e
      have h2 : p ∣ d + a * ev a (c :: t) := h
      have := Int.dvd_sub h2 (show p ∣ a * ev a (c :: t) from Int.dvd_mul_of_dvd_right h1)
      rwa [Int.add_sub_cancel] at this
    · exact ih d e
theorem roots {p : Nat} (hp : PrP p) : ∀ (cs xs : List Int), cs.length ≤ xs.length → xs.Pairwise (fun x y => ¬ (p : Int) ∣ x - y) → (∀ x ∈ xs, (p : Int) ∣ ev x cs) → ∀ c ∈ cs, (p : Int) ∣ c
  | [], _, _, _, _, c, h => by cases h
  | c :: t, [], h, _, _, _, _ => by simp at h
  | c :: t, a :: xs, hl, hd, hr, d, hm => by
    have ha := hr a List.mem_cons_self
    have hd' := List.pairwise_cons.mp hd
    have ih := roots hp (sd a (c :: t)) xs (by rw [sd_len]; simpa using hl) hd'.2 (by
      intro x hx
      have h1 := hr x (List.mem_cons_of_mem _ hx)
      have h2 : (p : Int) ∣ (x - a) * ev x (sd a (c :: t)) := by rw [← sd_ev]; exact Int.dvd_sub h1 ha
      refine hp.mul h2 fun e => hd'.1 x hx ?_
      have := Int.dvd_neg.mpr e
      rwa [Int.neg_sub] at this)
    exact sd_all (c :: t) ha ih d hm
  termination_by cs => cs.length
  decreasing_by rw [sd_len]; simp
theorem ev_sub (x : Int) : ∀ a b : List Int, a.length = b.length → ev x ((a.zip b).map fun q => q.1 - q.2) = ev x a - ev x b
  | [], [], _ => by simp [ev]
  | a :: as, b :: bs, h => by
    have ih := ev_sub x as bs (by simpa using h)
    show (a - b) + x * ev x ((as.zip bs).map fun q => q.1 - q.2) = (a + x * ev x as) - (b + x * ev x bs)
    rw [ih, Int.mul_sub]; omega
  | [], _ :: _, h => by simp at h
  | _ :: _, [], h => by simp at h
theorem rows_eq {p : Int} : ∀ a b : List Int, a.length = b.length → (∀ z ∈ a, 0 ≤ z ∧ z < p) → (∀ z ∈ b, 0 ≤ z ∧ z < p) → (∀ c ∈ (a.zip b).map fun q => q.1 - q.2, p ∣ c) → a = b
  | [], [], _, _, _, _ => rfl
  | a :: as, b :: bs, h, ha, hb, hd => by
    have h1 := ha a List.mem_cons_self
    have h2 := hb b List.mem_cons_self
    have h3 : p ∣ a - b := hd _ (by simp)
    have e : a = b := by
      have q : a % p = b % p := emod_congr h3
      rwa [Int.emod_eq_of_lt h1.1 h1.2, Int.emod_eq_of_lt h2.1 h2.2] at q
    rw [e, rows_eq as bs (by simpa using h) (fun z hz => ha z (List.mem_cons_of_mem _ hz)) (fun z hz => hb z (List.mem_cons_of_mem _ hz)) (fun c hc => hd c (by
      rw [List.zip_cons_cons, List.map_cons]; exact List.mem_cons_of_mem _ hc))]
  | [], _ :: _, h, _, _, _ => by simp at h
  | _ :: _, [], h, _, _, _ => by simp at h
/-- rows of as many rests, worth the same at as many unlike points, are the same -/
theorem rows_unique {p : Nat} (hp : PrP p) {a b xs : List Int} (hl : a.length = b.length) (hx : a.length ≤ xs.length) (ha : ∀ z ∈ a, 0 ≤ z ∧ z < p) (hb : ∀ z ∈ b, 0 ≤ z ∧ z < p) (hd : xs.Pairwise (fun x y => ¬ (p : Int) ∣ x - y)) (h : ∀ x ∈ xs, hor p x a = hor p x b) : a = b := by
  refine rows_eq a b hl ha hb (roots hp _ xs (by rw [List.length_map, List.length_zip]; omega) hd fun x hx' => ?_)
  rw [ev_sub x a b hl]
  have := h x hx'
  rw [hor_ev, hor_ev] at this
  exact Int.dvd_of_emod_eq_zero (Int.emod_eq_emod_iff_emod_sub_eq_zero.mp this)
theorem hor_small {p x r : Int} {rs : List Int} (h : (p : Int) ∣ ev x rs - r) (hr : 0 ≤ r ∧ r < p) : hor p x rs = r := by
  rw [hor_ev, emod_congr h, Int.emod_eq_of_lt hr.1 hr.2]
theorem ev_snoc0 (x : Int) : ∀ rs : List Int, ev x (rs ++ [0]) = ev x rs
  | [] => by simp [ev]
  | r :: rs => by
    rw [List.cons_append]
    show r + x * ev x (rs ++ [0]) = r + x * ev x rs
    rw [ev_snoc0 x rs]
theorem ev_zeros (x : Int) (rs : List Int) : ∀ n : Nat, ev x (rs ++ List.replicate n 0) = ev x rs
  | 0 => by simp
  | n + 1 => by rw [List.replicate_succ', ← List.append_assoc, ev_snoc0, ev_zeros x rs n]
def prs12 : List Int := [11, 13, 211, 11, 17, 101, 199, 31, 61, 113, 157, 23]
theorem prs12_P : ∀ p ∈ prs12, PrP p.toNat := by
  have h : ∀ p ∈ prs12.map Int.toNat, 2 ≤ p ∧ p < 1000 ∧ ∀ a : Nat, a < p → 0 < a → Nat.gcd p a = 1 := by decide +kernel
  intro p hp
  obtain ⟨h1, h2, h3⟩ := h p.toNat (List.mem_map.mpr ⟨p, hp, rfl⟩)
  exact ⟨h1, h2, fun a h0 h => h3 a h h0⟩

/-! ### the row through points -/
def prd (x : Int) : List (Int × Int) → Int
  | [] => 1
  | q :: t => (x - q.1) * prd x t
theorem prd_snoc (x : Int) (q : Int × Int) : ∀ l : List (Int × Int), prd x (l ++ [q]) = prd x l * (x - q.1)
  | [] => by simp [prd]
  | r :: l => by rw [List.cons_append, prd, prd, prd_snoc x q l, Int.mul_assoc]
theorem prd_mem (x : Int) : ∀ l : List (Int × Int), (∃ q ∈ l, q.1 = x) → prd x l = 0
  | [], h => by obtain ⟨_, h, _⟩ := h; cases h
  | r :: l, h => by
    obtain ⟨q, h1, h2⟩ := h
    rcases List.mem_cons.mp h1 with e | e
    · rw [prd, ← e, h2]; simp
    · rw [prd, prd_mem x l ⟨q, e, h2⟩]; simp
theorem prd_nz {p : Nat} (hp : PrP p) {x : Int} : ∀ l : List (Int × Int), (∀ q ∈ l, ¬ (p : Int) ∣ x - q.1) → ¬ (p : Int) ∣ prd x l
  | [], _, h => by
    have : (p : Int) ≤ 1 := Int.le_of_dvd (by decide) h
    have := hp.1
    omega
  | r :: l, h, e => prd_nz hp l (fun q hq => h q (List.mem_cons_of_mem _ hq)) (hp.mul e (h r List.mem_cons_self))
structure Nw (p : Nat) (ps : List (Int × Int)) (row van : List Int) : Prop where
  lr : row.length = ps.length
  lv : van.length = ps.length + 1
  br : ∀ z ∈ row, 0 ≤ z ∧ z < (p : Int)
  bv : ∀ z ∈ van, 0 ≤ z ∧ z < (p : Int)
  ok : ∀ q ∈ ps, (p : Int) ∣ ev q.1 row - q.2
  vn : ∀ x, (p : Int) ∣ ev x van - prd x ps
theorem Nw.step {p : Nat} (hp : PrP p) {ps : List (Int × Int)} {row van : List Int} (h : Nw p ps row van) {q : Int × Int} {b : Int} (hb : (p : Int) ∣ hor p q.1 van * b - 1) :
    Nw p (ps ++ [q]) (plusL p ((q.2 - hor p q.1 row) * b) (row ++ [0]) van) (plusL p (-q.1) (0 :: van) (van ++ [0])) := by
  have hp0 : (0 : Int) < p := by have := hp.1; omega
  have l1 : (row ++ [0]).length = van.length := by rw [List.length_append, h.lr, h.lv]; rfl
  have l2 : (0 :: van).length = (van ++ [0]).length := by simp
  refine ⟨by rw [plus_len l1, List.length_append, List.length_append, h.lr]; rfl, by rw [plus_len l2, List.length_cons, h.lv, List.length_append]; rfl, plus_in hp0, plus_in hp0, fun r hr => ?_, fun x => ?_⟩
  · have e := ev_plus p r.1 ((q.2 - hor p q.1 row) * b) (row ++ [0]) van l1
    rw [ev_snoc0] at e
    have v := h.vn r.1
    rcases List.mem_append.mp hr with m | m
    · have o := h.ok r m
      rw [prd_mem r.1 ps ⟨r, m, rfl⟩, Int.sub_zero] at v
      have e2 : ev r.1 (plusL p ((q.2 - hor p q.1 row) * b) (row ++ [0]) van) - r.2 = (ev r.1 (plusL p ((q.2 - hor p q.1 row) * b) (row ++ [0]) van) - (ev r.1 row + (q.2 - hor p q.1 row) * b * ev r.1 van)) + (ev r.1 row - r.2) + (q.2 - hor p q.1 row) * b * ev r.1 van := by omega
      rw [e2]
      exact Int.dvd_add (Int.dvd_add e o) (Int.dvd_mul_of_dvd_right v)
    · rw [List.mem_singleton] at m
      subst m
      obtain ⟨k, hk⟩ := e
      obtain ⟨m, hm⟩ := hb
      rw [hor_ev] at hm
      obtain ⟨i, hi⟩ := dvd_emod p (ev r.1 van)
      obtain ⟨j, hj⟩ := dvd_emod p (ev r.1 row)
      have a1 : ev r.1 van % (p : Int) = ev r.1 van + p * i := by omega
      have a2 : hor p r.1 row = ev r.1 row + p * j := by rw [hor_ev]; omega
      rw [a1] at hm
      rw [a2] at hk ⊢
      generalize ev r.1 van = X at *
      generalize ev r.1 row = Y at *
      generalize ev r.1 (plusL p ((r.2 - (Y + p * j)) * b) (row ++ [0]) van) = W at *
      have a3 : X * b = 1 + p * m - p * (i * b) := by rw [Int.add_mul, Int.mul_assoc] at hm; omega
      have a4 : (r.2 - (Y + p * j)) * b * X = (r.2 - (Y + p * j)) * (X * b) := by rw [Int.mul_assoc, Int.mul_comm b]
      rw [a4, a3] at hk
      refine ⟨k + (r.2 - (Y + p * j)) * (m - i * b) - j, ?_⟩
      have a5 : (r.2 - (Y + p * j)) * (1 + p * m - p * (i * b)) = (r.2 - (Y + p * j)) + p * ((r.2 - (Y + p * j)) * (m - i * b)) := by
        rw [Int.mul_sub, Int.mul_add, Int.mul_one, Int.mul_sub, Int.mul_sub]
        have b1 : (r.2 - (Y + p * j)) * (p * m) = p * ((r.2 - (Y + p * j)) * m) := Int.mul_left_comm _ _ _
        have b2 : (r.2 - (Y + p * j)) * (p * (i * b)) = p * ((r.2 - (Y + p * j)) * (i * b)) := Int.mul_left_comm _ _ _
        rw [b1, b2]; omega
      rw [a5] at hk
      rw [Int.mul_sub, Int.mul_add]
      generalize (p : Int) * ((r.2 - (Y + p * j)) * (m - i * b)) = Z at *
      generalize (p : Int) * k = K at *
      generalize (p : Int) * j = J at *
      omega
  · have e := ev_plus p x (-q.1) (0 :: van) (van ++ [0]) l2
    rw [ev_snoc0] at e
    have e1 : ev x (0 :: van) = x * ev x van := by show 0 + x * ev x van = _; omega
    rw [e1] at e
    rw [prd_snoc]
    obtain ⟨k, hk⟩ := e
    obtain ⟨m, hm⟩ := h.vn x
    generalize ev x (plusL p (-q.1) (0 :: van) (van ++ [0])) = W at *
    have e2 : ev x van = prd x ps + p * m := by omega
    rw [e2] at hk
    refine ⟨k + m * (x - q.1), ?_⟩
    have c1 : x * (prd x ps + p * m) + -q.1 * (prd x ps + p * m) = prd x ps * (x - q.1) + p * (m * (x - q.1)) := by
      rw [← Int.add_mul, Int.mul_add, ← Int.sub_eq_add_neg, Int.mul_comm _ (prd x ps), Int.mul_comm _ ((p : Int) * m), Int.mul_assoc]
    rw [c1] at hk
    rw [Int.mul_add]; omega
theorem Nw.nil {p : Nat} (hp : PrP p) : Nw p [] [] [1] := by
  have := hp.1
  refine ⟨rfl, rfl, (fun _ h => nomatch h), fun z hz => ?_, (fun _ h => nomatch h), fun x => ⟨0, by simp [ev, prd]⟩⟩
  rw [List.mem_singleton] at hz; subst hz; omega
theorem with_okV {p f : Int} {a b : List Int} {M : Mem} {v1 v2 : SV} (h1 : ∀ ρ : Rho, ρ = [some (ze p), some v1, some v2, some (ze f), none, none] → iZp (aCons (eVar 1) (aCons (eVar 2) aNil)) ρ M = some (zipD (a.map PyData.int) (b.map PyData.int), M)) (hp : 0 < p) (hf : -(2 ^ 64) < f ∧ f < 2 ^ 64) (hl : a.length ≤ 1000) : F_with_multiple [ze p, v1, v2, ze f] M = some (.dat (.list ((plusL p f a b).map PyData.int)), M) := by
  refine mkF_rtL (M1 := M) rfl (sRet_eq ?_)
  have it : iZp (aCons (eVar 1) (aCons (eVar 2) aNil)) [some (ze p), some v1, some v2, some (ze f), none, none] M = some ((a.zip b).map fun q => PyData.tuple [.int q.1, .int q.2], M) := by
    rw [h1 _ rfl, zipD_ints]
  have lc := lcL_map (g := gTp [4, 5]) (el := eOp (lift2 dMod) (eOp (lift2 dAdd) (eVar 4) (eOp (lift2 dMul) (eVar 3) (eVar 5))) (eVar 0)) (ρ := [some (ze p), some v1, some v2, some (ze f), none, none]) (M := M)
    (f := fun d => match d with | .tuple [.int x, .int y] => .int ((x + f * y) % p) | d => d) ((a.zip b).map fun q => PyData.tuple [.int q.1, .int q.2]) (by
      intro d hd
      obtain ⟨q, _, rfl⟩ := List.mem_map.mp hd
      exact ⟨_, rfl, eOp_eq (M1 := M) (eOp_eq (M1 := M) (x := ze q.1) rfl (eOp_eq (M1 := M) (x := ze f) (y := ze q.2) rfl rfl (l_mul (.inl hf))) l_add) (y := ze p) rfl (l_mod hp)⟩)
  have e : (((a.zip b).map fun q => PyData.tuple [.int q.1, .int q.2]).map fun d => match d with | .tuple [.int x, .int y] => PyData.int ((x + f * y) % p) | d => d) = (plusL p f a b).map PyData.int := by
    unfold plusL
    rw [List.map_map, List.map_map]; rfl
  rw [e] at lc
  exact eLc_eq (M1 := M) it (by rw [List.length_map, List.length_zip]; omega) lc
theorem with_ok {p f : Int} {a b : List Int} {M : Mem} (hp : 0 < p) (hf : -(2 ^ 64) < f ∧ f < 2 ^ 64) (hl : a.length ≤ 1000) : F_with_multiple [ze p, .dat (.list (a.map PyData.int)), .dat (.list (b.map PyData.int)), ze f] M = some (.dat (.list ((plusL p f a b).map PyData.int)), M) := with_okV (by rintro ρ rfl; rfl) hp hf hl
theorem nought_ok {p x : Int} {van : List Int} {M : Mem} (hp : 0 < p) (hx : -(2 ^ 60) < x ∧ x < 2 ^ 60) (hl : van.length ≤ 990) : F_with_nought_at [ze p, .dat (.list (van.map PyData.int)), ze x] M = some (.dat (.list ((plusL p (-x) (0 :: van) (van ++ [0])).map PyData.int)), M) := by
  have m2 := with_ok (p := p) (f := -x) (a := 0 :: van) (b := van ++ [0]) (M := M) hp (by omega) (by simp; omega)
  rw [List.map_append, List.map_cons, List.map_singleton] at m2
  have c2 := l_addL (M := M) (xs := [.int 0]) (ys := van.map PyData.int) (Nat.ble_eq_true_of_le (by simp; omega))
  have c3 := l_addL (M := M) (xs := van.map PyData.int) (ys := [.int 0]) (Nat.ble_eq_true_of_le (by simp; omega))
  rw [List.singleton_append] at c2
  refine mkF_rtL (M1 := M) rfl ?_
  show B_with_nought_at [some (ze p), some (.dat (.list (van.map PyData.int))), some (ze x)] M = _
  walk_at "sm"
abbrev thrB : SS := (sSeq (sAsg (eOp (lift2 dSub) (eVar 5) (eCall F_worth_at (aCons (eVar 0) (aCons (eVar 2) (aCons (eVar 4) aNil))))) (gNm 6))
    (sSeq (sAsg (eOp (lift2 dMul) (eVar 6) (eCall F_contrary (aCons (eVar 0) (aCons (eCall F_worth_at (aCons (eVar 0) (aCons (eVar 3) (aCons (eVar 4) aNil)))) aNil)))) (gNm 7))
    (sSeq (sAsg (eCall F_with_multiple (aCons (eVar 0) (aCons (eOp (lift2 dAdd) (eVar 2) (eLst (aCons (eC (.int 0)) aNil))) (aCons (eVar 3) (aCons (eVar 7) aNil))))) (gNm 2))
    (sAsg (eCall F_with_nought_at (aCons (eVar 0) (aCons (eVar 3) (aCons (eVar 4) aNil)))) (gNm 3)))))
theorem thr_turn {p : Nat} (hp : PrP p) {M : Mem} {ps : List (Int × Int)} {row van : List Int} {q : Int × Int} {v1 : SV} (h : Nw p ps row van) (hl : ps.length ≤ 900) (hq : 0 ≤ q.1 ∧ q.1 < p) (hr : 0 ≤ q.2 ∧ q.2 < p) (hd : ∀ r ∈ ps, ¬ (p : Int) ∣ q.1 - r.1) (o6 o7 : Option SV) :
    ∃ row' van' o6' o7', thrB [some (ze p), some v1, some (.dat (.list (row.map PyData.int))), some (.dat (.list (van.map PyData.int))), some (ze q.1), some (ze q.2), o6, o7] M = some (.nx [some (ze p), some v1, some (.dat (.list (row'.map PyData.int))), some (.dat (.list (van'.map PyData.int))), some (ze q.1), some (ze q.2), o6', o7'] M) ∧ Nw p (ps ++ [q]) row' van' := by
  have hp1 := hp.1
  have hp2 := hp.2.1
  have hp0 : (0 : Int) < p := by omega
  have v0 := hor_lt (x := q.1) hp0 van
  have r0 := hor_lt (x := q.1) hp0 row
  have nv : ¬ p ∣ (hor p q.1 van).toNat := by
    intro e
    have e1 : (p : Int) ∣ hor p q.1 van := by
      have : ((hor p q.1 van).toNat : Int) = hor p q.1 van := by omega
      rw [← this]; exact Int.natCast_dvd_natCast.mpr e
    rw [hor_ev] at e1
    have e2 : (p : Int) ∣ ev q.1 van := by
      have := Int.dvd_sub e1 (dvd_emod p (ev q.1 van))
      rwa [Int.sub_sub_self] at this
    have e3 := Int.dvd_sub e2 (h.vn q.1)
    rw [Int.sub_sub_self] at e3
    exact prd_nz hp ps hd e3
  obtain ⟨b, b0, b1, b2, eb⟩ := contrary_ok (p := p) (a := (hor p q.1 van).toNat) (M := M) (by omega) hp2 (by rw [Nat.gcd_comm, ← Nat.gcd_rec]; exact hp.gcd nv)
  have ev0 : ((hor p q.1 van).toNat : Int) = hor p q.1 van := by omega
  rw [ev0] at eb
  have hb : (p : Int) ∣ hor p q.1 van * b - 1 := by
    have b2' : (hor p q.1 van * (b : Int)) % (p : Int) = 1 := by rw [← ev0]; exact_mod_cast b2
    have := Int.emod_add_mul_ediv (hor p q.1 van * (b : Int)) (p : Int)
    rw [b2'] at this
    exact ⟨hor p q.1 van * (b : Int) / (p : Int), by omega⟩
  have st := h.step hp hb
  have w1 := worth_okL (p := p) (x := q.1) (rs := row) (M := M) hp0 (by omega)
  have w2 := worth_okL (p := p) (x := q.1) (rs := van) (M := M) hp0 (by omega)
  have hlr := h.lr
  have hlv := h.lv
  have fb : -(2 ^ 64) < (q.2 - hor p q.1 row) * (b : Int) ∧ (q.2 - hor p q.1 row) * (b : Int) < 2 ^ 64 := by
    have u1 : (q.2 - hor p q.1 row) * (b : Int) ≤ 1000 * 1000 := by
      have : (q.2 - hor p q.1 row) * (b : Int) ≤ 1000 * (b : Int) := Int.mul_le_mul_of_nonneg_right (by omega) (by omega)
      omega
    have u2 : -1000 * 1000 ≤ (q.2 - hor p q.1 row) * (b : Int) := by
      have : -1000 * (b : Int) ≤ (q.2 - hor p q.1 row) * (b : Int) := Int.mul_le_mul_of_nonneg_right (by omega) (by omega)
      omega
    omega
  have m1 := with_ok (p := p) (f := (q.2 - hor p q.1 row) * (b : Int)) (a := row ++ [0]) (b := van) (M := M) hp0 fb (by rw [List.length_append]; simp; omega)
  have m2 := nought_ok (p := p) (x := q.1) (van := van) (M := M) hp0 (by omega) (by omega)
  rw [List.map_append, List.map_singleton] at m1
  have c1 := l_addL (M := M) (xs := row.map PyData.int) (ys := [.int 0]) (Nat.ble_eq_true_of_le (by simp; omega))
  have mm := l_mul (M := M) (i := q.2 - hor p q.1 row) (j := (b : Int)) (.inr ⟨by omega, by omega⟩)
  refine ⟨_, _, some (ze (q.2 - hor p q.1 row)), some (ze ((q.2 - hor p q.1 row) * (b : Int))), ?_, st⟩
  walk_at "sm"
theorem through_ok {p : Nat} (hp : PrP p) {M : Mem} {ps : List (Int × Int)} (hl : ps.length ≤ 900) (hq : ∀ q ∈ ps, 0 ≤ q.1 ∧ q.1 < (p : Int)) (hr : ∀ q ∈ ps, 0 ≤ q.2 ∧ q.2 < (p : Int)) (hd : ps.Pairwise fun a b => ¬ (p : Int) ∣ a.1 - b.1) :
    ∃ row : List Int, F_through [ze p, .dat (.tuple (ps.map pD))] M = some (.dat (.tuple (row.map PyData.int)), M) ∧ row.length = ps.length ∧ (∀ z ∈ row, 0 ≤ z ∧ z < (p : Int)) ∧ ∀ q ∈ ps, hor p q.1 row = q.2 := by
  obtain ⟨ρ', M', e, rfl, row, van, o4, o5, o6, o7, rfl, h⟩ := loop_inv (g := gTp [4, 5]) (s := thrB) (fun n ρ M1 => M1 = M ∧ ∃ (row van : List Int) (o4 o5 o6 o7 : Option SV), ρ = [some (ze p), some (.dat (.tuple (ps.map pD))), some (.dat (.list (row.map PyData.int))), some (.dat (.list (van.map PyData.int))), o4, o5, o6, o7] ∧ Nw p (ps.take n) row van) (ps.map pD) 0 [some (ze p), some (.dat (.tuple (ps.map pD))), some (.dat (.list [])), some (.dat (.list [.int 1])), none, none, none, none] M ⟨rfl, [], [1], none, none, none, none, rfl, Nw.nil hp⟩ (by
    rintro i d ρ M1 hd' ⟨rfl, row, van, o4, o5, o6, o7, rfl, h⟩
    rw [List.getElem?_map] at hd'
    obtain ⟨q, hqi, rfl⟩ := Option.map_eq_some_iff.mp hd'
    rw [Nat.zero_add] at h ⊢
    have hm : q ∈ ps := List.mem_of_getElem? hqi
    obtain ⟨hi, hqe⟩ := List.getElem?_eq_some_iff.mp hqi
    have ht : ps.take (i + 1) = ps.take i ++ [q] := by rw [List.take_succ, hqi]; rfl
    have hd2 : ∀ r ∈ ps.take i, ¬ (p : Int) ∣ q.1 - r.1 := by
      have := List.Pairwise.sublist (List.take_sublist (i + 1) ps) hd
      rw [ht, List.pairwise_append] at this
      intro r hr' e
      refine this.2.2 r hr' q (List.mem_singleton_self q) ?_
      have := Int.dvd_neg.mpr e
      rwa [Int.neg_sub] at this
    obtain ⟨row', van', o6', o7', e, st⟩ := thr_turn hp (M := M1) (v1 := .dat (.tuple (ps.map pD))) h (by rw [List.length_take]; omega) (hq q hm) (hr q hm) hd2 o6 o7
    refine ⟨_, _, _, _, rfl, e, rfl, row', van', _, _, o6', o7', rfl, ?_⟩
    rw [ht]; exact st)
  rw [Nat.zero_add, List.length_map, List.take_length] at h
  refine ⟨row, mkF_rtL (M1 := M') rfl ?_, h.lr, h.br, fun q hm => hor_small (h.ok q hm) (hr q hm)⟩
  refine sSeq_nx (M1 := M') (ρ1 := [some (ze p), some (.dat (.tuple (ps.map pD))), some (.dat (.list [])), none, none, none, none, none]) rfl ?_
  refine sSeq_nx (M1 := M') (ρ1 := [some (ze p), some (.dat (.tuple (ps.map pD))), some (.dat (.list [])), some (.dat (.list [.int 1])), none, none, none, none]) rfl ?_
  exact sSeq_nx (sFor_eq (M1 := M') (ds := ps.map pD) rfl e) rfl

theorem zip_fst : ∀ xs rs : List Int, ((xs.zip rs).map Prod.fst).Sublist xs
  | [], _ => by simp
  | x :: xs, [] => by simp
  | x :: xs, r :: rs => by
    rw [List.zip_cons_cons, List.map_cons]
    exact (zip_fst xs rs).cons₂ x
/-- points good for a prime -/
structure Pts (p : Nat) (ps : List (Int × Int)) : Prop where
  ln : ps.length ≤ 900
  bx : ∀ q ∈ ps, 0 ≤ q.1 ∧ q.1 < (p : Int)
  br : ∀ q ∈ ps, 0 ≤ q.2 ∧ q.2 < (p : Int)
  un : ps.Pairwise fun a b => ¬ (p : Int) ∣ a.1 - b.1
theorem pts_zip {p : Nat} {xs rs : List Int} (hx : ∀ x ∈ xs, 0 ≤ x ∧ x < (p : Int)) (hr : ∀ x ∈ rs, 0 ≤ x ∧ x < (p : Int)) (hd : xs.Pairwise (· < ·)) (hl : xs.length ≤ 900) : Pts p (xs.zip rs) := by
  refine ⟨by rw [List.length_zip]; omega, fun q hq => hx _ (List.of_mem_zip hq).1, fun q hq => hr _ (List.of_mem_zip hq).2, ?_⟩
  have h1 : ((xs.zip rs).map Prod.fst).Pairwise (· < ·) := by
    exact List.Pairwise.sublist (zip_fst xs rs) hd
  rw [List.pairwise_map] at h1
  refine List.Pairwise.imp_of_mem ?_ h1
  intro a c ha hc hac
  refine apart (hx _ (List.of_mem_zip ha).1) (hx _ (List.of_mem_zip hc).1) (by omega)
/-- the row through points is the one row worth that there -/
theorem through_is {p : Nat} (hp : PrP p) {M : Mem} {ps : List (Int × Int)} (h : Pts p ps) {row : List Int} (hl : row.length = ps.length) (hb : ∀ z ∈ row, 0 ≤ z ∧ z < (p : Int)) (hw : ∀ q ∈ ps, hor p q.1 row = q.2) : F_through [ze p, .dat (.tuple (ps.map pD))] M = some (.dat (.tuple (row.map PyData.int)), M) := by
  obtain ⟨row', e, l', b', w'⟩ := through_ok hp (M := M) h.ln h.bx h.br h.un
  have : row' = row := by
    refine rows_unique hp (xs := ps.map Prod.fst) (by rw [l', hl]) (by rw [List.length_map, l']; exact Nat.le_refl _) b' hb ?_ fun x hx => ?_
    · rw [List.pairwise_map]; exact h.un
    · obtain ⟨q, hq, rfl⟩ := List.mem_map.mp hx
      rw [w' q hq, hw q hq]
  rw [← this]; exact e

theorem through_okL {p : Nat} (hp : PrP p) {M : Mem} {ps : List (Int × Int)} (hl : ps.length ≤ 900) (hq : ∀ q ∈ ps, 0 ≤ q.1 ∧ q.1 < (p : Int)) (hr : ∀ q ∈ ps, 0 ≤ q.2 ∧ q.2 < (p : Int)) (hd : ps.Pairwise fun a b => ¬ (p : Int) ∣ a.1 - b.1) :
    ∃ row : List Int, F_through [ze p, .dat (.list (ps.map pD))] M = some (.dat (.tuple (row.map PyData.int)), M) ∧ row.length = ps.length ∧ (∀ z ∈ row, 0 ≤ z ∧ z < (p : Int)) ∧ ∀ q ∈ ps, hor p q.1 row = q.2 := by
  obtain ⟨ρ', M', e, rfl, row, van, o4, o5, o6, o7, rfl, h⟩ := loop_inv (g := gTp [4, 5]) (s := thrB) (fun n ρ M1 => M1 = M ∧ ∃ (row van : List Int) (o4 o5 o6 o7 : Option SV), ρ = [some (ze p), some (.dat (.list (ps.map pD))), some (.dat (.list (row.map PyData.int))), some (.dat (.list (van.map PyData.int))), o4, o5, o6, o7] ∧ Nw p (ps.take n) row van) (ps.map pD) 0 [some (ze p), some (.dat (.list (ps.map pD))), some (.dat (.list [])), some (.dat (.list [.int 1])), none, none, none, none] M ⟨rfl, [], [1], none, none, none, none, rfl, Nw.nil hp⟩ (by
    rintro i d ρ M1 hd' ⟨rfl, row, van, o4, o5, o6, o7, rfl, h⟩
    rw [List.getElem?_map] at hd'
    obtain ⟨q, hqi, rfl⟩ := Option.map_eq_some_iff.mp hd'
    rw [Nat.zero_add] at h ⊢
    have hm : q ∈ ps := List.mem_of_getElem? hqi
    obtain ⟨hi, hqe⟩ := List.getElem?_eq_some_iff.mp hqi
    have ht : ps.take (i + 1) = ps.take i ++ [q] := by rw [List.take_succ, hqi]; rfl
    have hd2 : ∀ r ∈ ps.take i, ¬ (p : Int) ∣ q.1 - r.1 := by
      have := List.Pairwise.sublist (List.take_sublist (i + 1) ps) hd
      rw [ht, List.pairwise_append] at this
      intro r hr' e
      refine this.2.2 r hr' q (List.mem_singleton_self q) ?_
      have := Int.dvd_neg.mpr e
      rwa [Int.neg_sub] at this
    obtain ⟨row', van', o6', o7', e, st⟩ := thr_turn hp (M := M1) (v1 := .dat (.list (ps.map pD))) h (by rw [List.length_take]; omega) (hq q hm) (hr q hm) hd2 o6 o7
    refine ⟨_, _, _, _, rfl, e, rfl, row', van', _, _, o6', o7', rfl, ?_⟩
    rw [ht]; exact st)
  rw [Nat.zero_add, List.length_map, List.take_length] at h
  refine ⟨row, mkF_rtL (M1 := M') rfl ?_, h.lr, h.br, fun q hm => hor_small (h.ok q hm) (hr q hm)⟩
  refine sSeq_nx (M1 := M') (ρ1 := [some (ze p), some (.dat (.list (ps.map pD))), some (.dat (.list [])), none, none, none, none, none]) rfl ?_
  refine sSeq_nx (M1 := M') (ρ1 := [some (ze p), some (.dat (.list (ps.map pD))), some (.dat (.list [])), some (.dat (.list [.int 1])), none, none, none, none]) rfl ?_
  exact sSeq_nx (sFor_eq (M1 := M') (ds := ps.map pD) rfl e) rfl

theorem through_isL {p : Nat} (hp : PrP p) {M : Mem} {ps : List (Int × Int)} (h : Pts p ps) {row : List Int} (hl : row.length = ps.length) (hb : ∀ z ∈ row, 0 ≤ z ∧ z < (p : Int)) (hw : ∀ q ∈ ps, hor p q.1 row = q.2) : F_through [ze p, .dat (.list (ps.map pD))] M = some (.dat (.tuple (row.map PyData.int)), M) := by
  obtain ⟨row', e, l', b', w'⟩ := through_okL hp (M := M) h.ln h.bx h.br h.un
  have : row' = row := by
    refine rows_unique hp (xs := ps.map Prod.fst) (by rw [l', hl]) (by rw [List.length_map, l']; exact Nat.le_refl _) b' hb ?_ fun x hx => ?_
    · rw [List.pairwise_map]; exact h.un
    · obtain ⟨q, hq, rfl⟩ := List.mem_map.mp hx
      rw [w' q hq, hw q hq]
  rw [← this]; exact e

/-! ### the row through points -/
/-- a row that is nought at these -/
structure Vn (p : Nat) (ys van : List Int) : Prop where
  lv : van.length = ys.length + 1
  bv : ∀ z ∈ van, 0 ≤ z ∧ z < (p : Int)
  vn : ∀ x, (p : Int) ∣ ev x van - prd x (ys.map fun y => (y, 0))
theorem Vn.nil {p : Nat} (hp : PrP p) : Vn p [] [1] := by
  have := hp.1
  refine ⟨rfl, fun z hz => ?_, fun x => ⟨0, by simp [ev, prd]⟩⟩
  rw [List.mem_singleton] at hz; subst hz; omega
theorem Vn.step {p : Nat} (hp : PrP p) {ys van : List Int} (h : Vn p ys van) (y : Int) : Vn p (ys ++ [y]) (plusL p (-y) (0 :: van) (van ++ [0])) := by
  have hp0 : (0 : Int) < p := by have := hp.1; omega
  have l2 : (0 :: van).length = (van ++ [0]).length := by simp
  refine ⟨by rw [plus_len l2, List.length_cons, h.lv, List.length_append]; rfl, plus_in hp0, fun x => ?_⟩
  have e := ev_plus p x (-y) (0 :: van) (van ++ [0]) l2
  rw [ev_snoc0] at e
  have e1 : ev x (0 :: van) = x * ev x van := by show 0 + x * ev x van = _; omega
  rw [e1] at e
  rw [List.map_append, List.map_singleton, prd_snoc]
  obtain ⟨k, hk⟩ := e
  obtain ⟨m, hm⟩ := h.vn x
  generalize ev x (plusL p (-y) (0 :: van) (van ++ [0])) = W at *
  generalize prd x (ys.map fun y => (y, 0)) = P at *
  have e2 : ev x van = P + p * m := by omega
  rw [e2] at hk
  refine ⟨k + m * (x - y), ?_⟩
  have c1 : x * (P + p * m) + -y * (P + p * m) = P * (x - y) + p * (m * (x - y)) := by
    rw [← Int.add_mul, Int.mul_add, ← Int.sub_eq_add_neg, Int.mul_comm _ P, Int.mul_comm _ ((p : Int) * m), Int.mul_assoc]
  rw [c1] at hk
  rw [Int.mul_add]
  show W - P * (x - y) = _
  omega
theorem Vn.zero {p : Nat} {ys van : List Int} (h : Vn p ys van) {y : Int} (hy : y ∈ ys) : hor p y van = 0 := by
  have := h.vn y
  rw [prd_mem y _ ⟨(y, 0), List.mem_map.mpr ⟨y, hy, rfl⟩, rfl⟩, Int.sub_zero] at this
  rw [hor_ev]; exact Int.emod_eq_zero_of_dvd this
theorem Vn.not {p : Nat} (hp : PrP p) {ys van : List Int} (h : Vn p ys van) {x : Int} (hx : ∀ y ∈ ys, ¬ (p : Int) ∣ x - y) : hor p x van ≠ 0 := by
  intro e
  rw [hor_ev] at e
  have h1 := Int.dvd_of_emod_eq_zero e
  have h2 := h.vn x
  refine prd_nz hp (x := x) (ys.map fun y => (y, 0)) (fun q hq => ?_) ?_
  · obtain ⟨y, hy, rfl⟩ := List.mem_map.mp hq
    exact hx y hy
  · have := Int.dvd_sub h1 h2
    rwa [show ev x van - (ev x van - prd x (ys.map fun y => (y, 0))) = prd x (ys.map fun y => (y, 0)) by omega] at this

theorem xvalue_body {p x : Int} {rs : List Int} {M : Mem} {v1 : SV} (hv : v1 = .dat (.tuple (rs.map PyData.int)) ∨ v1 = .dat (.list (rs.map PyData.int))) (hp : 0 < p) (hx : -(2 ^ 64) < x ∧ x < 2 ^ 64) : F_xvalue [ze p, v1, ze x] M = some (ze (hor p x rs), M) := by
  obtain ⟨o', e⟩ := worth_loop (M := M) (v1 := v1) hp hx rs [] none 0
  rw [List.append_nil, foldr_hor] at e
  refine mkF_rtL (M1 := M) rfl (sSeq_nx (M1 := M) (ρ1 := [some (ze p), some v1, some (ze x), some (ze 0), none]) rfl ?_)
  refine sSeq_nx (M1 := M) (ρ1 := [some (ze p), some v1, some (ze x), some (ze (hor p x rs)), o']) (sFor_eq (M1 := M) (ds := (rs.map PyData.int).reverse) ?_ e) rfl
  rcases hv with rfl | rfl <;> rfl
theorem xvalue_ok {p x : Int} {rs : List Int} {M : Mem} (hp : 0 < p) (hx : -(2 ^ 64) < x ∧ x < 2 ^ 64) : F_xvalue [ze p, .dat (.tuple (rs.map PyData.int)), ze x] M = some (ze (hor p x rs), M) := xvalue_body (.inl rfl) hp hx
theorem xvalue_okL {p x : Int} {rs : List Int} {M : Mem} (hp : 0 < p) (hx : -(2 ^ 64) < x ∧ x < 2 ^ 64) : F_xvalue [ze p, .dat (.list (rs.map PyData.int)), ze x] M = some (ze (hor p x rs), M) := xvalue_body (.inr rfl) hp hx

end Lk38

namespace Lk38
open PySem Sm L2
local macro_rules
  | `(tactic| walk_at "le") => `(tactic| ((try simp only [List.length_cons, List.length_nil, List.length_append, List.length_map]); omega))
local macro_rules
  | `(tactic| walk_at "smb") => `(tactic| first
    | with_reducible assumption
    | with_reducible rfl
    | assumption
    | rfl
    | (simp only [decide_eq_true_eq, decide_eq_false_iff_not, beq_iff_eq, Bool.not_eq_true', Bool.not_eq_false', beq_eq_false_iff_ne, Bool.and_eq_true, Bool.or_eq_true, Bool.not_eq_true, Bool.not_eq_false, ne_eq, Bool.and_eq_false_imp, Bool.or_eq_false_iff]; omega))
local macro_rules
  | `(tactic| walk_at "smf") => `(tactic| fail "no call")
local macro_rules
  | `(tactic| walk_at "sml") => `(tactic| first
    | with_reducible assumption
    | with_reducible exact l_add
    | with_reducible exact l_sub
    | with_reducible exact l_eq
    | with_reducible exact l_ne
    | with_reducible exact l_lt
    | with_reducible exact l_le
    | with_reducible exact l_gt
    | with_reducible exact l_ge
    | with_reducible exact l_eqSS
    | with_reducible exact l_neSS
    | with_reducible exact l_eqBS
    | with_reducible exact l_neBS
    | with_reducible exact l_eqB
    | with_reducible exact l_neB
    | with_reducible exact l_eqS
    | with_reducible exact l_neS
    | with_reducible exact l_neg
    | with_reducible exact isi_int _
    | with_reducible exact isi_bool _
    | with_reducible exact isi_tup _
    | with_reducible exact l_lenL
    | with_reducible exact l_lenT
    | with_reducible exact l_slL
    | with_reducible exact l_slT
    | ((with_reducible apply l_mod); (walk_at "smo"))
    | ((with_reducible apply l_mul); (walk_at "smo"))
    | ((with_reducible apply l_div); (walk_at "smo"); (walk_at "smo"))
    | ((with_reducible apply l_addT); rfl)
    | ((with_reducible apply l_addL); rfl)
    | ((with_reducible apply l_ixL); first | assumption | rfl)
    | ((with_reducible apply l_ixT); first | assumption | rfl)
    | ((with_reducible apply one_eq); (walk_at "sml"))
    | with_reducible assumption
    | rfl)
local macro_rules
  | `(tactic| walk_at "smo") => `(tactic| first | assumption | omega)
local macro_rules
  | `(tactic| walk_at "sm") => `(tactic| first
    | with_reducible assumption
    | with_reducible exact aNil_eq
    | with_reducible exact eC_eq
    | with_reducible exact sNext_eq
    | with_reducible exact eD0_eq
    | ((with_reducible apply eD1_eq); (walk_at "sm"))
    | ((with_reducible apply eC_e); rfl)
    | with_reducible exact oNone_eq
    | ((with_reducible apply eVar_eq); rfl)
    | ((with_reducible apply aCons_eq); (walk_at "sm"); (walk_at "sm"))
    | ((with_reducible apply eOp_eq); (walk_at "sm"); (walk_at "sm"); (walk_at "sml"))
    | ((with_reducible apply eUn_eq); (walk_at "sm"); (walk_at "sml"))
    | ((with_reducible apply eCB_eq); (walk_at "sm"); (walk_at "sml"))
    | ((with_reducible apply eCall_eq); (walk_at "sm"); (first | with_reducible assumption | walk_at "smf"))
    | ((with_reducible apply eTup_e); (walk_at "sm"); rfl; rfl)
    | ((with_reducible apply eLst_e); (walk_at "sm"); rfl; rfl)
    | ((with_reducible apply oSome_eq); (walk_at "sm"))
    | ((with_reducible apply eSl_eq); (walk_at "sm"); (walk_at "sm"); (walk_at "sm"); (walk_at "sml"))
    | ((with_reducible apply eNot_eq); (walk_at "sm"))
    | ((with_reducible apply bNot_eq); (walk_at "sm"))
    | ((with_reducible apply bVal_eq); (walk_at "sm"))
    | ((with_reducible apply bTru_b); (walk_at "sm"))
    | ((with_reducible apply eChain_e); (walk_at "sm"); (walk_at "sm"); (walk_at "sml"); (walk_at "sm"); (walk_at "sml"))
    | ((with_reducible apply eChain3_e); (walk_at "sm"); (walk_at "sm"); (walk_at "sml"); (walk_at "sm"); (walk_at "sml"); (walk_at "sm"); (walk_at "sml"))
    | ((with_reducible apply bOr_e); (walk_at "sm"); (first | ((apply ite_T); (walk_at "smb"); rfl) | ((apply ite_F); (walk_at "smb"); (walk_at "sm")) | ((apply or_gen); (walk_at "sm"))))
    | ((with_reducible apply bAnd_e); (walk_at "sm"); (first | ((apply ite_F); (walk_at "smb"); rfl) | ((apply ite_T); (walk_at "smb"); (walk_at "sm")) | ((apply and_gen); (walk_at "sm"))))
    | ((with_reducible apply eOr_e); (walk_at "sm"); (first | ((apply ite_T); (walk_at "smb"); rfl) | ((apply ite_F); (walk_at "smb"); (walk_at "sm")) | ((apply eor_gen); (walk_at "sm"))))
    | ((with_reducible apply eAnd_e); (walk_at "sm"); (first | ((apply ite_F); (walk_at "smb"); rfl) | ((apply ite_T); (walk_at "smb"); (walk_at "sm")) | ((apply eand_gen); (walk_at "sm"))))
    | ((with_reducible apply eIf_e); (walk_at "sm"); (first | ((apply ite_T); (walk_at "smb"); (walk_at "sm")) | ((apply ite_F); (walk_at "smb"); (walk_at "sm"))))
    | ((with_reducible apply sIf_e); (walk_at "sm"); (first | ((apply ite_T); (walk_at "smb"); (walk_at "sm")) | ((apply ite_F); (walk_at "smb"); (walk_at "sm"))))
    | ((with_reducible apply sSeq_e); (walk_at "sm"); (first | with_reducible exact seqK_rt | ((with_reducible apply seqK_nx); (walk_at "sm")) | ((with_reducible refine Eq.trans seqK_rt ?_); rfl)))
    | ((with_reducible apply sRet_eq); (walk_at "sm"))
    | ((with_reducible apply sAsg_eq); (walk_at "sm"); (walk_at "smg"))
    | with_reducible assumption
    | walk_at "smx")
local macro_rules
  | `(tactic| walk_at "smx") => `(tactic| fail "no step")
local macro_rules
  | `(tactic| walk_at "smg") => `(tactic| first
    | ((with_reducible apply gNm_e); ((dsimp only [List.set]) <;> rfl))
    | ((with_reducible apply gTp_e); rfl; ((dsimp only [setAll, List.set]) <;> rfl))
    | rfl)

/-! ### all groups of so many, and the row that fits -/
def grp {α : Type} : Nat → List α → List (List α)
  | 0, _ => [[]]
  | _ + 1, [] => []
  | m + 1, t :: ts => (grp m ts).map (t :: ·) ++ grp (m + 1) ts
theorem grp_zero {α : Type} (ts : List α) : grp 0 ts = [[]] := by unfold grp; rfl
theorem grp_map {α β : Type} (f : α → β) : ∀ (m : Nat) (ts : List α), grp m (ts.map f) = (grp m ts).map (List.map f)
  | 0, ts => by unfold grp; rfl
  | m + 1, [] => by simp [grp]
  | m + 1, t :: ts => by
    rw [List.map_cons]
    unfold grp
    rw [grp_map f m ts, grp_map f (m + 1) ts, List.map_append, List.map_map, List.map_map]
    rfl
theorem grp_len {α : Type} : ∀ (m : Nat) (ts : List α), (grp m ts).length ≤ 2 ^ ts.length
  | 0, ts => by unfold grp; exact Nat.one_le_two_pow
  | m + 1, [] => by unfold grp; exact Nat.zero_le _
  | m + 1, t :: ts => by
    unfold grp
    have h1 := grp_len m ts
    have h2 := grp_len (m + 1) ts
    rw [List.length_append, List.length_map, List.length_cons, Nat.pow_succ]; omega
theorem grp_few {α : Type} : ∀ (m : Nat) (ts : List α), ts.length < m → grp m ts = []
  | 0, ts, h => by omega
  | m + 1, [], _ => by simp [grp]
  | m + 1, t :: ts, h => by
    rw [List.length_cons] at h
    unfold grp
    rw [grp_few m ts (by omega), grp_few (m + 1) ts (by omega)]; rfl
theorem grp_sub {α : Type} : ∀ (m : Nat) (ts g : List α), g ∈ grp m ts → g.Sublist ts ∧ g.length = m
  | 0, ts, g, h => by
    unfold grp at h
    rw [List.mem_singleton] at h; subst h; exact ⟨List.nil_sublist _, rfl⟩
  | m + 1, [], g, h => by unfold grp at h; cases h
  | m + 1, t :: ts, g, h => by
    unfold grp at h
    rcases List.mem_append.mp h with q | q
    · obtain ⟨r, hr, rfl⟩ := List.mem_map.mp q
      obtain ⟨h1, h2⟩ := grp_sub m ts r hr
      exact ⟨h1.cons_cons t, by rw [List.length_cons, h2]⟩
    · obtain ⟨h1, h2⟩ := grp_sub (m + 1) ts g q
      exact ⟨h1.cons t, h2⟩
theorem grp_all {α : Type} : ∀ (ts g : List α), g.Sublist ts → g ∈ grp g.length ts
  | _, [], _ => by unfold grp; exact List.mem_singleton_self _
  | t :: ts, a :: g, h => by
    rw [List.length_cons]
    unfold grp
    cases h with
    | cons _ h => exact List.mem_append_right _ (grp_all ts (a :: g) h)
    | cons_cons _ h => exact List.mem_append_left _ (List.mem_map.mpr ⟨g, grp_all ts g h, rfl⟩)
  | [], a :: g, h => by cases h
theorem groups_ok {M : Mem} : ∀ (n m : Nat) (ts : List PyData) (v : SV), m < n → n ≤ 1000 → ts.length ≤ 12 → (v = .dat (.tuple ts) ∨ v = .dat (.list ts)) → F_groups_of n [v, ze (m : Int)] M = some (.dat (.list ((grp m ts).map PyData.tuple)), M) := by
  intro n
  induction n generalizing M with
  | zero => intro m ts v h; omega
  | succ n ih =>
    intro m ts v hm hn hl hv
    cases m with
    | zero => 
      rw [grp_zero]
      refine mkF_rtL (M1 := M) rfl ?_
      show (B_groups_of (F_groups_of n)) [some v, some (ze 0), none, none, none] M = _
      exact sSeq_rt (sIf_t (M1 := M) (bVal_eq (eOp_eq (M1 := M) (M2 := M) (x := ze 0) (y := ze 1) rfl rfl rfl)) rfl)
    | succ m =>
      have len : fLen (M ++ [some []]) v = some (ze (ts.length : Int)) := by rcases hv with rfl | rfl <;> rfl
      have g2 := grp_len (m + 1) ts
      have g3 : (2 : Nat) ^ ts.length ≤ 4096 := Nat.le_trans (Nat.pow_le_pow_right (by decide) hl) (by decide)
      obtain ⟨ρ', M', e, o, out, N, rfl, rfl, hG⟩ := loop_inv (g := gNm 3) (s := sExt (eVar 2) (eLcN (iDat (eCall (F_groups_of n) (aCons (eSl fSl (eVar 0) (oSome (eOp (lift2 dAdd) (eVar 3) (eC (.int 1)))) oNone) (aCons (eOp (lift2 dSub) (eVar 1) (eC (.int 1))) aNil)))) (gNm 4) bYes (eOp (lift2 dAdd) (eTup (aCons (eOp fIx (eVar 0) (eVar 3)) aNil)) (eVar 4)) [4]))
        (fun i ρ M1 => ∃ (o : Option SV) (out : List (List PyData)) (N : Mem), ρ = [some v, some (ze ((m + 1 : Nat) : Int)), some (.cel M.length), o, none] ∧ M1 = M ++ some ((out.map PyData.tuple).map SV.dat) :: N ∧ out ++ grp (m + 1) (ts.drop i) = grp (m + 1) ts)
        (rangeD 0 ((ts.length : Int) - (m + 1 : Nat) + 1)) 0 [some v, some (ze ((m + 1 : Nat) : Int)), some (.cel M.length), none, none] (M ++ [some []]) ⟨none, [], [], rfl, rfl, rfl⟩ (by
          rintro i d ρ M1 hd ⟨o, out, N, rfl, rfl, hG⟩
          rw [Nat.zero_add] at hG ⊢
          have hi : i < ts.length ∧ d = .int (i : Int) := by
            unfold rangeD at hd
            rw [List.getElem?_map] at hd
            obtain ⟨k, hk, rfl⟩ := Option.map_eq_some_iff.mp hd
            obtain ⟨h1, h2⟩ := List.getElem?_eq_some_iff.mp hk
            rw [List.getElem_range] at h2
            rw [List.length_range] at h1
            subst h2
            exact ⟨by omega, by simp⟩
          obtain ⟨hi, rfl⟩ := hi
          have dr : ts.drop i = ts[i] :: ts.drop (i + 1) := (List.drop_eq_getElem_cons hi)
          have hG' : grp (m + 1) (ts.drop i) = (grp m (ts.drop (i + 1))).map (ts[i] :: ·) ++ grp (m + 1) (ts.drop (i + 1)) := by rw [dr]; rfl
          rw [hG', ← List.append_assoc] at hG
          have l0 : (out ++ (grp m (ts.drop (i + 1))).map (ts[i] :: ·)).length ≤ 4096 := by
            have := congrArg List.length hG
            rw [List.length_append] at this
            omega
          rw [List.length_append, List.length_map] at l0
          generalize hMM : M ++ some ((out.map PyData.tuple).map SV.dat) :: N = MM
          have cel : MM[M.length]? = some (some ((out.map PyData.tuple).map SV.dat)) := by
            rw [← hMM, List.getElem?_append_right (Nat.le_refl _), Nat.sub_self]; rfl
          obtain ⟨w, cut, hw⟩ : ∃ w, fSl MM v (some ((i : Int) + 1)) none = some w ∧ (w = .dat (.tuple (ts.drop (i + 1))) ∨ w = .dat (.list (ts.drop (i + 1)))) := by
            rcases hv with rfl | rfl
            · refine ⟨_, ?_, .inl rfl⟩
              show some (SV.dat (.tuple (cutD ts (some ((i + 1 : Nat) : Int)) none))) = _
              rw [cut_drop]
            · refine ⟨_, ?_, .inr rfl⟩
              show some (SV.dat (.list (cutD ts (some ((i + 1 : Nat) : Int)) none))) = _
              rw [cut_drop]
          have sub := ih (M := MM) m (ts.drop (i + 1)) w (by omega) (by omega) (by rw [List.length_drop]; omega) hw
          have ixx : fIx MM v (ze (i : Int)) = some (.dat ts[i]) := by
            rcases hv with rfl | rfl
            · exact l_ixT (by unfold atI; rw [ixN_in hi]; simp [hi])
            · exact l_ixL (by unfold atI; rw [ixN_in hi]; simp [hi])
          have it : iDat (eCall (F_groups_of n) (aCons (eSl fSl (eVar 0) (oSome (eOp (lift2 dAdd) (eVar 3) (eC (.int 1)))) oNone) (aCons (eOp (lift2 dSub) (eVar 1) (eC (.int 1))) aNil))) [some v, some (ze ((m + 1 : Nat) : Int)), some (.cel M.length), some (ze (i : Int)), none] MM = some ((grp m (ts.drop (i + 1))).map PyData.tuple, MM) := by
            refine iDat_l (eCall_eq (M1 := MM) (xs := [w, ze (m : Int)]) (aCons_eq (M1 := MM) (eSl_eq (M1 := MM) (M2 := MM) (M3 := MM) (x := v) rfl (oSome_eq (eOp_eq (M1 := MM) (M2 := MM) (x := ze (i : Int)) (y := ze 1) rfl rfl l_add)) rfl cut) (aCons_eq (M1 := MM) (eOp_eq (M1 := MM) (M2 := MM) (x := ze ((m + 1 : Nat) : Int)) (y := ze 1) rfl rfl ?_) rfl)) sub)
            rw [l_sub]; congr 3; omega
          have lc := lcL_map (g := gNm 4) (ρ := [some v, some (ze ((m + 1 : Nat) : Int)), some (.cel M.length), some (ze (i : Int)), none]) (M := MM) (el := eOp (lift2 dAdd) (eTup (aCons (eOp fIx (eVar 0) (eVar 3)) aNil)) (eVar 4)) (f := fun d => match d with | .tuple r => .tuple (ts[i] :: r) | _ => .none) ((grp m (ts.drop (i + 1))).map PyData.tuple) (fun d hd => by
            obtain ⟨r, hr, rfl⟩ := List.mem_map.mp hd
            obtain ⟨r1, r2⟩ := grp_sub _ _ _ hr
            have r3 := r1.length_le
            rw [List.length_drop] at r3
            exact ⟨_, rfl, eOp_eq (M1 := MM) (M2 := MM) (x := .dat (.tuple [ts[i]])) (y := .dat (.tuple r)) (eTup_eq (M1 := MM) (xs := [.dat ts[i]]) (aCons_eq (M1 := MM) (eOp_eq (M1 := MM) (M2 := MM) (x := v) (y := ze (i : Int)) rfl rfl ixx) rfl) rfl (show 1 ≤ 100000 by omega)) rfl (l_addT (Nat.ble_eq_true_of_le (by rw [List.length_singleton]; omega)))⟩)
          rw [List.map_map] at lc
          have lce : ((fun d : PyData => match d with | .tuple r => PyData.tuple (ts[i] :: r) | _ => .none) ∘ PyData.tuple) = PyData.tuple ∘ (ts[i] :: ·) := rfl
          rw [lce, ← List.map_map] at lc
          have ecn : eLcN (iDat (eCall (F_groups_of n) (aCons (eSl fSl (eVar 0) (oSome (eOp (lift2 dAdd) (eVar 3) (eC (.int 1)))) oNone) (aCons (eOp (lift2 dSub) (eVar 1) (eC (.int 1))) aNil)))) (gNm 4) bYes (eOp (lift2 dAdd) (eTup (aCons (eOp fIx (eVar 0) (eVar 3)) aNil)) (eVar 4)) [4] [some v, some (ze ((m + 1 : Nat) : Int)), some (.cel M.length), some (ze (i : Int)), none] MM = some (.cel MM.length, MM ++ [some ((((grp m (ts.drop (i + 1))).map (ts[i] :: ·)).map PyData.tuple).map SV.dat)]) := by
            unfold eLcN
            rw [it]
            have : ((grp m (ts.drop (i + 1))).map PyData.tuple).length ≤ 100000 := by rw [List.length_map]; omega
            simp only [Option.bind_some, this, if_true]
            have wz : wipeR [some v, some (ze ((m + 1 : Nat) : Int)), some (.cel M.length), some (ze (i : Int)), none] [4] = [some v, some (ze ((m + 1 : Nat) : Int)), some (.cel M.length), some (ze (i : Int)), none] := rfl
            rw [wz, lc]; rfl
          have hlt : M.length < MM.length := by rw [← hMM, List.length_append, List.length_cons]; omega
          have ce2 : (MM ++ [some ((((grp m (ts.drop (i + 1))).map (ts[i] :: ·)).map PyData.tuple).map SV.dat)])[M.length]? = some (some ((out.map PyData.tuple).map SV.dat)) := by
            rw [List.getElem?_append_left hlt]; exact cel
          have ce3 : (MM ++ [some ((((grp m (ts.drop (i + 1))).map (ts[i] :: ·)).map PyData.tuple).map SV.dat)])[MM.length]? = some (some ((((grp m (ts.drop (i + 1))).map (ts[i] :: ·)).map PyData.tuple).map SV.dat)) := by
            rw [List.getElem?_append_right (Nat.le_refl _), Nat.sub_self]; rfl
          refine ⟨_, MM, [some v, some (ze ((m + 1 : Nat) : Int)), some (.cel M.length), some (ze (i : Int)), none], (MM ++ [some ((((grp m (ts.drop (i + 1))).map (ts[i] :: ·)).map PyData.tuple).map SV.dat)]).set M.length (some ((out.map PyData.tuple).map SV.dat ++ (((grp m (ts.drop (i + 1))).map (ts[i] :: ·)).map PyData.tuple).map SV.dat)), rfl, ?_, some (ze (i : Int)), out ++ (grp m (ts.drop (i + 1))).map (ts[i] :: ·), N ++ [some ((((grp m (ts.drop (i + 1))).map (ts[i] :: ·)).map PyData.tuple).map SV.dat)], rfl, ?_, hG⟩
          · have ev2 : eVar 2 [some v, some (ze ((m + 1 : Nat) : Int)), some (.cel M.length), some (ze (i : Int)), none] MM = some (.cel M.length, MM) := rfl
            show sExt _ _ [some v, some (ze ((m + 1 : Nat) : Int)), some (.cel M.length), some (ze (i : Int)), none] MM = _
            unfold sExt
            rw [ev2]
            simp only [Option.bind_some, ecn, cellAt_eq cel, cellAt_eq ce2, cellAt_eq ce3, dats_map]
            rw [if_pos (by simp only [List.length_map]; omega)]
          · rw [← hMM, List.append_assoc, List.set_append_right _ _ (Nat.le_refl _), Nat.sub_self]
            simp only [List.cons_append, List.set_cons_zero, List.map_append])
      have hend : grp (m + 1) (ts.drop (0 + (rangeD 0 ((ts.length : Int) - (m + 1 : Nat) + 1)).length)) = [] := by
        apply grp_few
        unfold rangeD
        rw [List.length_drop, List.length_map, List.length_range]; omega
      rw [hend, List.append_nil] at hG
      subst hG
      have cel : (M ++ some (((grp (m + 1) ts).map PyData.tuple).map SV.dat) :: N)[M.length]? = some (some (((grp (m + 1) ts).map PyData.tuple).map SV.dat)) := by
        rw [List.getElem?_append_right (Nat.le_refl _), Nat.sub_self]; rfl
      have res : mkF 5 (B_groups_of (F_groups_of n)) [v, ze ((m + 1 : Nat) : Int)] M = some (.dat (.list ((grp (m + 1) ts).map PyData.tuple)), ((M ++ some (((grp (m + 1) ts).map PyData.tuple).map SV.dat) :: N).set M.length none).take M.length) := by
        refine mkF_rt (M1 := (M ++ some (((grp (m + 1) ts).map PyData.tuple).map SV.dat) :: N).set M.length none) ?_
        refine sSeq_nx (M1 := M) (ρ1 := [some v, some (ze ((m + 1 : Nat) : Int)), none, none, none]) (sIf_f (M1 := M) (bVal_eq (eOp_eq (M1 := M) (M2 := M) (x := ze ((m + 1 : Nat) : Int)) (y := ze 1) rfl rfl (by rw [l_lt, decide_eq_false (by omega)]))) rfl) ?_
        refine sSeq_nx (M1 := M ++ [some []]) (ρ1 := [some v, some (ze ((m + 1 : Nat) : Int)), some (.cel M.length), none, none]) rfl ?_
        refine sSeq_nx (sFrz_eq (ρ1 := [some v, some (ze ((m + 1 : Nat) : Int)), some (.cel M.length), o, none]) (j := M.length) (sFor_eq (M1 := M ++ [some []]) (iR1_eq (aCons_eq (M1 := M ++ [some []]) (eOp_eq (M1 := M ++ [some []]) (M2 := M ++ [some []]) (x := ze ((ts.length : Int) - (m + 1 : Nat))) (y := ze 1) (eOp_eq (M1 := M ++ [some []]) (M2 := M ++ [some []]) (x := ze (ts.length : Int)) (y := ze ((m + 1 : Nat) : Int)) (eCB_eq (M1 := M ++ [some []]) (xs := [v]) rfl len) rfl l_sub) rfl l_add) rfl) (by omega) (by omega)) e) rfl cel (dats_map _)) rfl
      rw [List.set_append_right _ _ (Nat.le_refl _), List.take_left] at res
      exact res
abbrev wrongP (p : Int) (row : List Int) (qs : List (Int × Int)) : List (Int × Int) := qs.filter fun q => !(q.2 == hor p q.1 row)
theorem misfits_ok {p : Int} {row : List Int} {qs : List (Int × Int)} {M : Mem} {v2 : SV} (hv : v2 = .dat (.tuple (qs.map pD)) ∨ v2 = .dat (.list (qs.map pD))) (hp : 0 < p) (hp2 : p < 1000) (hx : ∀ q ∈ qs, (0 ≤ q.1 ∧ q.1 < p) ∧ 0 ≤ q.2 ∧ q.2 < p) (hl : qs.length ≤ 1000) :
    F_misfits [ze p, .dat (.tuple (row.map PyData.int)), v2] M = some (.dat (.tuple (((wrongP p row qs).map Prod.fst).map PyData.int)), M) := by
  have it : iDat (eVar 2) [some (ze p), some (.dat (.tuple (row.map PyData.int))), some v2, none, none] M = some (qs.map pD, M) := by rcases hv with rfl | rfl <;> rfl
  have lc := lcL_filter (g := gTp [3, 4]) (tt := bVal (eOp (lift2 dNe) (eCall F_worth_at (aCons (eVar 0) (aCons (eVar 1) (aCons (eVar 3) aNil)))) (eOp (lift2 dMod) (eVar 4) (eVar 0)))) (el := eVar 3) (ρ := [some (ze p), some (.dat (.tuple (row.map PyData.int))), some v2, none, none]) (M := M)
    (p := fun d => match d with | .tuple [.int x, .int y] => !(y == hor p x row) | _ => false) (f := fun d => match d with | .tuple [.int x, _] => .int x | d => d) (qs.map pD) (by
      intro d hd
      obtain ⟨q, hq, rfl⟩ := List.mem_map.mp hd
      obtain ⟨h1, h2⟩ := hx q hq
      refine ⟨_, rfl, bVal_eq (eOp_eq (M1 := M) (M2 := M) (x := ze (hor p q.1 row)) (y := ze q.2) (eCall_eq (M1 := M) (xs := [ze p, .dat (.tuple (row.map PyData.int)), ze q.1]) rfl (worth_ok hp (by omega))) (eOp_eq (M1 := M) (M2 := M) (x := ze q.2) (y := ze p) rfl rfl (by rw [l_mod hp, Int.emod_eq_of_lt h2.1 h2.2])) ?_), fun _ => rfl⟩
      rw [l_ne]
      show _ = some (SV.dat (PyData.bool (!(q.2 == hor p q.1 row))))
      rw [Bool.beq_comm])
  have e : ((qs.map pD).filter fun d => match d with | .tuple [.int x, .int y] => !(y == hor p x row) | _ => false).map (fun d => match d with | .tuple [.int x, _] => PyData.int x | d => d) = ((wrongP p row qs).map Prod.fst).map PyData.int := by
    rw [List.filter_map, List.map_map, List.map_map]; rfl
  rw [e] at lc
  refine mkF_rtL (M1 := M) rfl (sRet_eq (eCB_eq (M1 := M) (xs := [.dat (.list (((wrongP p row qs).map Prod.fst).map PyData.int))]) (aCons_eq (eLc_eq (M1 := M) it (by rw [List.length_map]; omega) lc) rfl) rfl))
abbrev fitB : SS := (sSeq (sAsg (eCall F_through (aCons (eVar 0) (aCons (eVar 4) aNil))) (gNm 5))
    (sSeq (sAsg (eCall F_misfits (aCons (eVar 0) (aCons (eVar 5) (aCons (eVar 2) aNil)))) (gNm 6))
    (sIf (bVal (eOp (lift2 dLe) (eCB (one fLen) (aCons (eVar 6) aNil)) (eVar 3))) (sRet (eTup (aCons (eVar 5) (aCons (eVar 6) aNil)))) sNext)))
abbrev fitR (p : Int) (row : List Int) (qs : List (Int × Int)) : PyData := .tuple [.tuple (row.map PyData.int), .tuple (((wrongP p row qs).map Prod.fst).map PyData.int)]
theorem fit_loop {p : Nat} (hP : PrP p) {M : Mem} {many : Nat} {qs : List (Int × Int)} {v1 v2 : SV} {most : Int} (hv : v2 = .dat (.tuple (qs.map pD)) ∨ v2 = .dat (.list (qs.map pD))) (hx : ∀ q ∈ qs, (0 ≤ q.1 ∧ q.1 < (p : Int)) ∧ 0 ≤ q.2 ∧ q.2 < (p : Int)) (hl : qs.length ≤ 1000) :
    ∀ (gs : List (List (Int × Int))) (o4 o5 o6 : Option SV), (∀ g ∈ gs, Pts p g ∧ g.length = many) →
    (∃ row : List Int, row.length = many ∧ (∀ z ∈ row, 0 ≤ z ∧ z < (p : Int)) ∧ ((wrongP p row qs).length : Int) ≤ most ∧ loop (gNm 4) fitB (gs.map fun g => .tuple (g.map pD)) [some (ze p), some v1, some v2, some (ze most), o4, o5, o6] M = some (.rt (.dat (fitR p row qs)) M)) ∨
    ((∀ row : List Int, row.length = many → (∀ z ∈ row, 0 ≤ z ∧ z < (p : Int)) → (∃ g ∈ gs, ∀ q ∈ g, hor p q.1 row = q.2) → ¬ ((wrongP p row qs).length : Int) ≤ most) ∧ ∃ ρ', loop (gNm 4) fitB (gs.map fun g => .tuple (g.map pD)) [some (ze p), some v1, some v2, some (ze most), o4, o5, o6] M = some (.nx ρ' M))
  | [], o4, o5, o6, _ => .inr ⟨(fun _ _ _ h => by obtain ⟨g, hg, _⟩ := h; cases hg), _, rfl⟩
  | g :: gs, o4, o5, o6, h => by
    obtain ⟨hg, hgl⟩ := h g List.mem_cons_self
    obtain ⟨row, e1, rl, rb, rw1⟩ := through_ok hP (M := M) hg.ln hg.bx hg.br hg.un
    have hp1 := hP.1
    have hp2 := hP.2.1
    have e2 := misfits_ok (p := p) (row := row) (M := M) hv (by omega) (by omega) hx hl
    have e3 : fLen M (.dat (.tuple (((wrongP p row qs).map Prod.fst).map PyData.int))) = some (ze ((wrongP p row qs).length : Int)) := by
      rw [l_lenT, List.length_map, List.length_map]
    by_cases c : ((wrongP p row qs).length : Int) ≤ most
    · left
      refine ⟨row, rl.trans hgl, rb, c, ?_⟩
      have : fitB [some (ze p), some v1, some v2, some (ze most), some (.dat (.tuple (g.map pD))), o5, o6] M = some (.rt (.dat (fitR p row qs)) M) := by
        refine sSeq_nx (M1 := M) (ρ1 := [some (ze p), some v1, some v2, some (ze most), some (.dat (.tuple (g.map pD))), some (.dat (.tuple (row.map PyData.int))), o6]) (sAsg_eq (eCall_eq (M1 := M) (xs := [ze p, .dat (.tuple (g.map pD))]) rfl e1) rfl) ?_
        refine sSeq_nx (M1 := M) (ρ1 := [some (ze p), some v1, some v2, some (ze most), some (.dat (.tuple (g.map pD))), some (.dat (.tuple (row.map PyData.int))), some (.dat (.tuple (((wrongP p row qs).map Prod.fst).map PyData.int)))]) (sAsg_eq (eCall_eq (M1 := M) (xs := [ze p, .dat (.tuple (row.map PyData.int)), v2]) rfl e2) rfl) ?_
        exact sIf_t (M1 := M) (bVal_eq (eOp_eq (M1 := M) (M2 := M) (x := ze ((wrongP p row qs).length : Int)) (y := ze most) (eCB_eq (M1 := M) (xs := [.dat (.tuple (((wrongP p row qs).map Prod.fst).map PyData.int))]) rfl e3) rfl (by rw [l_le, decide_eq_true c]))) rfl
      rw [List.map_cons]
      simp only [loop, gNm_eq, Option.bind_some, List.set_cons_succ, List.set_cons_zero, this]
    · have step : fitB [some (ze p), some v1, some v2, some (ze most), some (.dat (.tuple (g.map pD))), o5, o6] M = some (.nx [some (ze p), some v1, some v2, some (ze most), some (.dat (.tuple (g.map pD))), some (.dat (.tuple (row.map PyData.int))), some (.dat (.tuple (((wrongP p row qs).map Prod.fst).map PyData.int)))] M) := by
        refine sSeq_nx (M1 := M) (ρ1 := [some (ze p), some v1, some v2, some (ze most), some (.dat (.tuple (g.map pD))), some (.dat (.tuple (row.map PyData.int))), o6]) (sAsg_eq (eCall_eq (M1 := M) (xs := [ze p, .dat (.tuple (g.map pD))]) rfl e1) rfl) ?_
        refine sSeq_nx (M1 := M) (ρ1 := [some (ze p), some v1, some v2, some (ze most), some (.dat (.tuple (g.map pD))), some (.dat (.tuple (row.map PyData.int))), some (.dat (.tuple (((wrongP p row qs).map Prod.fst).map PyData.int)))]) (sAsg_eq (eCall_eq (M1 := M) (xs := [ze p, .dat (.tuple (row.map PyData.int)), v2]) rfl e2) rfl) ?_
        exact sIf_f (M1 := M) (bVal_eq (eOp_eq (M1 := M) (M2 := M) (x := ze ((wrongP p row qs).length : Int)) (y := ze most) (eCB_eq (M1 := M) (xs := [.dat (.tuple (((wrongP p row qs).map Prod.fst).map PyData.int))]) rfl e3) rfl (by rw [l_le, decide_eq_false c]))) rfl
      have lp : ∀ r, loop (gNm 4) fitB (gs.map fun g => .tuple (g.map pD)) [some (ze p), some v1, some v2, some (ze most), some (.dat (.tuple (g.map pD))), some (.dat (.tuple (row.map PyData.int))), some (.dat (.tuple (((wrongP p row qs).map Prod.fst).map PyData.int)))] M = r → loop (gNm 4) fitB ((g :: gs).map fun g => .tuple (g.map pD)) [some (ze p), some v1, some v2, some (ze most), o4, o5, o6] M = r := fun r hr => loop_nx (M1 := M) (M2 := M) rfl step hr
      rcases fit_loop hP hv hx hl (most := most) gs (some (.dat (.tuple (g.map pD)))) (some (.dat (.tuple (row.map PyData.int)))) (some (.dat (.tuple (((wrongP p row qs).map Prod.fst).map PyData.int)))) (fun g' hg' => h g' (List.mem_cons_of_mem _ hg')) with ⟨r, r1, r2, r3, r4⟩ | ⟨r1, ρ', r2⟩
      · exact .inl ⟨r, r1, r2, r3, lp _ r4⟩
      · refine .inr ⟨fun r q1 q2 q3 => ?_, ρ', lp _ r2⟩
        obtain ⟨g', hg', q4⟩ := q3
        rcases List.mem_cons.mp hg' with rfl | hg''
        · have : r = row := by
            refine rows_unique hP (xs := g'.map Prod.fst) (by rw [q1, rl, hgl]) (by rw [List.length_map, q1, hgl]; exact Nat.le_refl _) q2 rb ?_ fun x hx' => ?_
            · rw [List.pairwise_map]; exact hg.un
            · obtain ⟨q, hq, rfl⟩ := List.mem_map.mp hx'
              rw [q4 q hq, rw1 q hq]
          rw [this]; exact c
        · exact r1 r q1 q2 ⟨g', hg'', q4⟩
theorem right_len (p : Int) (row : List Int) : ∀ qs : List (Int × Int), (qs.filter fun q => q.2 == hor p q.1 row).length + (wrongP p row qs).length = qs.length
  | [] => rfl
  | q :: qs => by
    have ih := right_len p row qs
    unfold wrongP at ih ⊢
    simp only [List.filter_cons, List.length_cons]
    cases (q.2 == hor p q.1 row) <;> simp <;> omega
theorem pts_sub {p : Nat} {qs g : List (Int × Int)} (hq : (qs.map Prod.fst).Pairwise (· < ·)) (hx : ∀ q ∈ qs, (0 ≤ q.1 ∧ q.1 < (p : Int)) ∧ 0 ≤ q.2 ∧ q.2 < (p : Int)) (hl : qs.length ≤ 900) (hs : g.Sublist qs) : Pts p g := by
  refine ⟨Nat.le_trans hs.length_le hl, fun q h => (hx q (hs.subset h)).1, fun q h => (hx q (hs.subset h)).2, ?_⟩
  have h1 : (g.map Prod.fst).Pairwise (· < ·) := hq.sublist (hs.map _)
  rw [List.pairwise_map] at h1
  refine List.Pairwise.imp_of_mem ?_ h1
  intro a c ha hc hac
  exact apart (hx a (hs.subset ha)).1 (hx c (hs.subset hc)).1 (by omega)
/-- what fitting tells: the row that is wrong at so few of the pairs, or that there is none -/
theorem fitting_spec {p : Nat} (hP : PrP p) {M : Mem} {many : Nat} {qs : List (Int × Int)} {v : SV} (hv : v = .dat (.tuple (qs.map pD)) ∨ v = .dat (.list (qs.map pD))) (hm : many ≤ 9) (hml : many ≤ qs.length) (hl : qs.length ≤ 12) (hq : (qs.map Prod.fst).Pairwise (· < ·)) (hx : ∀ q ∈ qs, (0 ≤ q.1 ∧ q.1 < (p : Int)) ∧ 0 ≤ q.2 ∧ q.2 < (p : Int)) :
    (∃ row : List Int, row.length = many ∧ (∀ z ∈ row, 0 ≤ z ∧ z < (p : Int)) ∧ 2 * (wrongP p row qs).length ≤ qs.length - many ∧ F_fitting [ze p, ze (many : Int), v] M = some (.dat (fitR p row qs), M)) ∨
    ((∀ row : List Int, row.length = many → (∀ z ∈ row, 0 ≤ z ∧ z < (p : Int)) → qs.length - many < 2 * (wrongP p row qs).length) ∧ F_fitting [ze p, ze (many : Int), v] M = some (.dat .none, M)) := by
  have len : fLen M v = some (ze (qs.length : Int)) := by
    rcases hv with rfl | rfl
    · rw [l_lenT, List.length_map]
    · rw [l_lenL, List.length_map]
  have b1 : B_fitting_1 [some (ze p), some (ze (many : Int)), some v, none, none, none, none] M = some (.nx [some (ze p), some (ze (many : Int)), some v, some (ze (((qs.length - many) / 2 : Nat) : Int)), none, none, none] M) := by
    refine sAsg_eq (M1 := M) (eOp_eq (M1 := M) (M2 := M) (x := ze ((qs.length : Int) - many)) (y := ze 2) (eOp_eq (M1 := M) (M2 := M) (x := ze (qs.length : Int)) (y := ze (many : Int)) (eCB_eq (M1 := M) (xs := [v]) rfl len) rfl l_sub) rfl (l_div (by omega) (by omega))) ?_
    rw [show ((qs.length : Int) - many) / 2 = (((qs.length - many) / 2 : Nat) : Int) by omega]; rfl
  have eg := groups_ok (M := M) 10 many (qs.map pD) v (by omega) (by omega) (by rw [List.length_map]; exact hl) hv
  rw [grp_map, List.map_map] at eg
  have it : iDat (eCall (F_groups_of 10) (aCons (eVar 2) (aCons (eVar 1) aNil))) [some (ze p), some (ze (many : Int)), some v, some (ze (((qs.length - many) / 2 : Nat) : Int)), none, none, none] M = some ((grp many qs).map fun g => .tuple (g.map pD), M) :=
    iDat_l (eCall_eq (M1 := M) (xs := [v, ze (many : Int)]) rfl eg)
  have go : ∀ g ∈ grp many qs, Pts p g ∧ g.length = many := fun g hg => by
    obtain ⟨h1, h2⟩ := grp_sub _ _ _ hg
    exact ⟨pts_sub hq hx (by omega) h1, h2⟩
  rcases fit_loop hP (M := M) (v1 := ze (many : Int)) (many := many) hv hx (by omega) (most := (((qs.length - many) / 2 : Nat) : Int)) (grp many qs) none none none go with ⟨row, r1, r2, r3, r4⟩ | ⟨r1, ρ', r2⟩
  · refine .inl ⟨row, r1, r2, by omega, mkF_rtL (M1 := M) rfl (sSeq_nx (M1 := M) b1 (sSeq_rt (sFor_eq (M1 := M) it r4)))⟩
  · refine .inr ⟨fun row q1 q2 => ?_, mkF_rtL (M1 := M) rfl (sSeq_nx (M1 := M) b1 (sSeq_nx (M1 := M) (sFor_eq (M1 := M) it r2) rfl))⟩
    have key := right_len p row qs
    apply Classical.byContradiction
    intro hc
    have hR : many ≤ (qs.filter fun q => q.2 == hor p q.1 row).length := by omega
    have hsub : ((qs.filter fun q => q.2 == hor p q.1 row).take many).Sublist qs := (List.take_sublist _ _).trans List.filter_sublist
    have hlen : ((qs.filter fun q => q.2 == hor p q.1 row).take many).length = many := by rw [List.length_take]; omega
    have hmem := grp_all _ _ hsub
    rw [hlen] at hmem
    refine r1 row q1 q2 ⟨_, hmem, fun q hq' => ?_⟩ (by omega)
    have := (List.mem_filter.mp (List.mem_of_mem_take hq')).2
    exact (eq_of_beq this).symm

/-! ### lists that grow by a loop, lists by a range -/
theorem range_nat (n : Nat) : rangeD 0 (n : Int) = (List.range n).map fun i : Nat => PyData.int (i : Int) := by
  unfold rangeD
  rw [show ((n : Int) - 0).toNat = n by omega]
  exact List.map_congr_left fun i _ => by rw [Int.zero_add]
theorem app_at {ρ : Rho} {k : Nat} {el : SE} {d : PyData} {ds : List PyData} {M : Mem} (hv : ρ[k]? = some (some (.cel M.length))) (he : el ρ (M ++ [cd ds]) = some (.dat d, M ++ [cd ds])) (hl : ds.length < 10000) :
    sApp (eVar k) el ρ (M ++ [cd ds]) = some (.nx ρ (M ++ [cd (ds ++ [d])])) := by
  have g : (M ++ [cd ds])[M.length]? = some (cd ds) := by rw [List.getElem?_append_right (Nat.le_refl _), Nat.sub_self]; rfl
  have := sApp_eq (o := eVar k) (i := M.length) (M1 := M ++ [cd ds]) (eVar_eq hv) he g g (by rw [List.length_map]; omega)
  rw [this, List.set_append_right _ _ (Nat.le_refl _), Nat.sub_self]
  simp [cd]
theorem frz_at {ρ ρ1 : Rho} {k : Nat} {s : SS} {ds : List PyData} {M M0 : Mem} (hs : s ρ M0 = some (.nx ρ1 (M ++ [cd ds]))) (hv : ρ1[k]? = some (some (.cel M.length))) :
    sFrz k s ρ M0 = some (.nx (ρ1.set k (some (.dat (.list ds)))) (M ++ [none])) := by
  have g : (M ++ [cd ds])[M.length]? = some (cd ds) := by rw [List.getElem?_append_right (Nat.le_refl _), Nat.sub_self]; rfl
  have := sFrz_eq hs hv g (dats_map ds)
  rw [this, List.set_append_right _ _ (Nat.le_refl _), Nat.sub_self]
  rfl
theorem grow_loop {s : SS} {M : Mem} {f : Nat → PyData} {j : Nat} (I : Rho → Prop) (n : Nat) {ρ0 : Rho} (h0 : I ρ0)
    (hs : ∀ (i : Nat) (ρ : Rho), i < n → I ρ → ∃ ρ1, I ρ1 ∧ s (ρ.set j (some (ze (i : Int)))) (M ++ [cd ((List.range i).map f)]) = some (.nx ρ1 (M ++ [cd ((List.range i).map f ++ [f i])]))) :
    ∃ ρ', I ρ' ∧ loop (gNm j) s (rangeD 0 (n : Int)) ρ0 (M ++ [some []]) = some (.nx ρ' (M ++ [cd ((List.range n).map f)])) := by
  obtain ⟨ρ', M', e, h1, h2⟩ := loop_inv (g := gNm j) (s := s) (fun i ρ M1 => I ρ ∧ M1 = M ++ [cd ((List.range i).map f)]) (rangeD 0 (n : Int)) 0 ρ0 (M ++ [some []]) ⟨h0, rfl⟩ (by
    rintro i d ρ M1 hd ⟨hI, rfl⟩
    rw [Nat.zero_add]
    rw [range_nat, List.getElem?_map] at hd
    obtain ⟨i', hi', rfl⟩ := Option.map_eq_some_iff.mp hd
    obtain ⟨q1, q2⟩ := List.getElem?_eq_some_iff.mp hi'
    rw [List.getElem_range] at q2
    rw [List.length_range] at q1
    subst q2
    obtain ⟨ρ1, k1, k2⟩ := hs i ρ q1 hI
    refine ⟨_, _, ρ1, _, rfl, k2, k1, ?_⟩
    rw [List.range_succ, List.map_append]; rfl)
  rw [range_nat, List.length_map, List.length_range, Nat.zero_add] at h2
  subst h2
  exact ⟨ρ', h1, by rw [range_nat] at e ⊢; exact e⟩
theorem lc_range {el : SE} {it : SI} {ρ ρ0 : Rho} {M : Mem} {n j : Nat} {vs : List Nat} {f : Nat → PyData} (hi : it ρ M = some (rangeD 0 (n : Int), M)) (hw : wipeR ρ vs = ρ0) (hn : n ≤ 1000) (h : ∀ i : Nat, i < n → el (ρ0.set j (some (ze (i : Int)))) M = some (.dat (f i), M)) :
    eLc it (gNm j) bYes el vs ρ M = some (.dat (.list ((List.range n).map f)), M) := by
  have lc := lcL_map (g := gNm j) (ρ := ρ0) (M := M) (el := el) (f := fun d => match d with | .int i => f i.toNat | _ => .none) (rangeD 0 (n : Int)) (by
    intro d hd
    rw [range_nat] at hd
    obtain ⟨i, hi, rfl⟩ := List.mem_map.mp hd
    exact ⟨_, rfl, h i (List.mem_range.mp hi)⟩)
  refine eLc_eq (M1 := M) hi (by rw [range_nat, List.length_map, List.length_range]; omega) ?_
  rw [hw, lc, range_nat, List.map_map]
  rfl
/-! ### sums, and tables that are the same across -/
def sm : Nat → (Nat → Int) → Int
  | 0, _ => 0
  | n + 1, f => sm n f + f n
theorem sm_congr {f g : Nat → Int} : ∀ {n : Nat}, (∀ i, i < n → f i = g i) → sm n f = sm n g
  | 0, _ => rfl
  | n + 1, h => by rw [sm, sm, sm_congr fun i hi => h i (by omega), h n (by omega)]
theorem sm_add (f g : Nat → Int) : ∀ n : Nat, sm n (fun i => f i + g i) = sm n f + sm n g
  | 0 => rfl
  | n + 1 => by rw [sm, sm, sm, sm_add f g n]; omega
theorem sm_mul (c : Int) (f : Nat → Int) : ∀ n : Nat, sm n (fun i => f i * c) = sm n f * c
  | 0 => by simp [sm]
  | n + 1 => by rw [sm, sm, sm_mul c f n, Int.add_mul]
theorem sm_zero : ∀ n : Nat, sm n (fun _ => 0) = 0
  | 0 => rfl
  | n + 1 => by rw [sm, sm_zero n]; rfl
theorem sm_comm (g : Nat → Nat → Int) (e : Nat) : ∀ d : Nat, sm d (fun i => sm e (fun j => g i j)) = sm e (fun j => sm d (fun i => g i j))
  | 0 => by rw [sm]; exact (sm_zero e).symm
  | d + 1 => by
    rw [sm, sm_comm g e d, ← sm_add]
    rfl
theorem ev_app (x : Int) (z : Int) : ∀ a : List Int, ev x (a ++ [z]) = ev x a + z * x ^ a.length
  | [] => by simp [ev]
  | c :: a => by
    rw [List.cons_append]
    show c + x * ev x (a ++ [z]) = (c + x * ev x a) + z * x ^ (a.length + 1)
    rw [ev_app x z a, Int.mul_add, Int.pow_succ, Int.mul_left_comm, Int.mul_comm x (x ^ a.length)]; omega
theorem ev_sm (x : Int) (f : Nat → Int) : ∀ d : Nat, ev x ((List.range d).map f) = sm d (fun i => f i * x ^ i)
  | 0 => rfl
  | d + 1 => by rw [List.range_succ, List.map_append, List.map_singleton, ev_app, ev_sm x f d, List.length_map, List.length_range]; rfl
theorem ev_mod (p y : Int) (f : Nat → Int) : ∀ l : List Nat, p ∣ ev y (l.map fun i => f i % p) - ev y (l.map f)
  | [] => ⟨0, by simp [ev]⟩
  | i :: l => by
    obtain ⟨k, hk⟩ := ev_mod p y f l
    obtain ⟨j, hj⟩ := dvd_emod p (f i)
    refine ⟨j + y * k, ?_⟩
    rw [List.map_cons, List.map_cons]
    show (f i % p + y * ev y (l.map fun i => f i % p)) - (f i + y * ev y (l.map f)) = _
    rw [show ev y (l.map fun i => f i % p) = ev y (l.map f) + p * k by omega, Int.mul_add, Int.mul_add, Int.mul_left_comm]; omega
abbrev colL (d : Nat) (T : Nat → Nat → Int) (c : Nat) : List Int := (List.range d).map fun r => T r c
abbrev keptL (p : Int) (d : Nat) (T : Nat → Nat → Int) (x : Int) : List Int := (List.range d).map fun c => hor p x (colL d T c)
/-- what one house tells for another one is what that one tells for it -/
theorem across {p : Int} {d : Nat} {T : Nat → Nat → Int} (hT : ∀ r c, T r c = T c r) (x y : Int) : hor p y (keptL p d T x) = hor p x (keptL p d T y) := by
  have key : ∀ x y : Int, hor p y (keptL p d T x) = (sm d (fun c => (sm d (fun r => T r c * x ^ r)) * y ^ c)) % p := by
    intro x y
    rw [hor_ev]
    have e : keptL p d T x = (List.range d).map fun c => (fun c => sm d (fun r => T r c * x ^ r)) c % p := by
      unfold keptL
      refine List.map_congr_left fun c _ => ?_
      rw [hor_ev, ev_sm]
    rw [e]
    have h := emod_congr (ev_mod p y (fun c => sm d (fun r => T r c * x ^ r)) (List.range d))
    rw [h, ev_sm]
  rw [key, key]
  congr 1
  have e1 : sm d (fun c => sm d (fun r => T r c * x ^ r) * y ^ c) = sm d (fun c => sm d (fun r => T r c * x ^ r * y ^ c)) := sm_congr fun c _ => (sm_mul _ _ _).symm
  have e2 : sm d (fun c => sm d (fun r => T r c * y ^ r) * x ^ c) = sm d (fun c => sm d (fun r => T r c * y ^ r * x ^ c)) := sm_congr fun c _ => (sm_mul _ _ _).symm
  rw [e1, e2, sm_comm]
  exact sm_congr fun r _ => sm_congr fun c _ => by rw [hT r c, Int.mul_assoc, Int.mul_assoc, Int.mul_comm (x ^ r)]
/-! ### the law's own tables, and what houses keep of them -/
abbrev rD (zs : List Int) : PyData := .tuple (zs.map PyData.int)
abbrev tD (d : Nat) (T : Nat → Nat → Int) : PyData := .tuple ((List.range d).map fun r => .tuple ((List.range d).map fun c => .int (T r c)))
theorem tup_range {n : Nat} (f : Nat → PyData) {M : Mem} {i : Nat} (hi : i < n) : fIx M (.dat (.tuple ((List.range n).map f))) (ze (i : Int)) = some (.dat (f i)) :=
  l_ixT (atI_in (k := i) rfl (by rw [List.getElem?_map, List.getElem?_range hi]; rfl))
theorem lst_range {n : Nat} (f : Nat → PyData) {M : Mem} {i : Nat} (hi : i < n) : fIx M (.dat (.list ((List.range n).map f))) (ze (i : Int)) = some (.dat (f i)) :=
  l_ixL (atI_in (k := i) rfl (by rw [List.getElem?_map, List.getElem?_range hi]; rfl))
theorem xkept_ok {p x : Int} {d : Nat} {T : Nat → Nat → Int} {M : Mem} (hp : 0 < p) (hx : -(2 ^ 60) < x ∧ x < 2 ^ 60) (hd : d ≤ 100) : F_xkept [ze p, .dat (tD d T), ze x] M = some (.dat (rD (keptL p d T x)), M) := by
  have len : fLen (M ++ [some []]) (.dat (tD d T)) = some (ze (d : Int)) := by
    show some (ze ((List.map _ (List.range d)).length : Int)) = _
    rw [List.length_map, List.length_range]
  obtain ⟨ρ', ⟨o4, rfl⟩, e⟩ := grow_loop (j := 4) (M := M) (s := sApp (eVar 3) (eCall F_xvalue (aCons (eVar 0) (aCons (eLc (iDat (eVar 1)) (gNm 5) bYes (eOp fIx (eVar 5) (eVar 4)) [5]) (aCons (eVar 2) aNil))))) (f := fun c => .int (hor p x (colL d T c))) (fun ρ => ∃ o4, ρ = [some (ze p), some (.dat (tD d T)), some (ze x), some (.cel M.length), o4, none]) d (ρ0 := [some (ze p), some (.dat (tD d T)), some (ze x), some (.cel M.length), none, none]) ⟨none, rfl⟩ (by
    rintro i ρ hi ⟨o4, rfl⟩
    refine ⟨[some (ze p), some (.dat (tD d T)), some (ze x), some (.cel M.length), some (ze (i : Int)), none], ⟨_, rfl⟩, ?_⟩
    refine app_at (k := 3) rfl ?_ (by rw [List.length_map, List.length_range]; omega)
    generalize M ++ [cd ((List.range i).map fun c => .int (hor p x (colL d T c)))] = MM
    have lc := lcL_map (g := gNm 5) (ρ := [some (ze p), some (.dat (tD d T)), some (ze x), some (.cel M.length), some (ze (i : Int)), none]) (M := MM) (el := eOp fIx (eVar 5) (eVar 4)) (f := fun d => match d with | .tuple cs => (cs[i]?).getD .none | _ => .none) ((List.range d).map fun r => .tuple ((List.range d).map fun c => .int (T r c))) (by
      intro d' hd'
      obtain ⟨r, hr, rfl⟩ := List.mem_map.mp hd'
      refine ⟨_, rfl, eOp_eq (M1 := MM) (M2 := MM) (x := .dat (.tuple ((List.range d).map fun c => .int (T r c)))) (y := ze (i : Int)) rfl rfl ?_⟩
      rw [tup_range _ hi]
      show _ = some (SV.dat ((((List.range d).map fun c => PyData.int (T r c))[i]?).getD .none))
      rw [List.getElem?_map, List.getElem?_range hi]; rfl)
    have e : ((List.range d).map fun r => PyData.tuple ((List.range d).map fun c => .int (T r c))).map (fun d => match d with | .tuple cs => (cs[i]?).getD .none | _ => .none) = (colL d T i).map PyData.int := by
      rw [List.map_map, List.map_map]
      refine List.map_congr_left fun r _ => ?_
      show (((List.range d).map fun c => PyData.int (T r c))[i]?).getD .none = _
      rw [List.getElem?_map, List.getElem?_range hi]; rfl
    rw [e] at lc
    exact eCall_eq (M1 := MM) (xs := [ze p, .dat (.list ((colL d T i).map PyData.int)), ze x]) (aCons_eq (M1 := MM) rfl (aCons_eq (M1 := MM) (eLc_eq (M1 := MM) rfl (by rw [List.length_map, List.length_range]; omega) lc) rfl)) (xvalue_okL hp (by omega)))
  have hf := frz_at (k := 3) (ρ := [some (ze p), some (.dat (tD d T)), some (ze x), some (.cel M.length), none, none]) (s := sFor (iR1 (aCons (eCB (one fLen) (aCons (eVar 1) aNil)) aNil)) (gNm 4) _) (M0 := M ++ [some []]) (sFor_eq (M1 := M ++ [some []]) (iR1_eq (j := (d : Int)) (aCons_eq (M1 := M ++ [some []]) (eCB_eq (M1 := M ++ [some []]) (xs := [.dat (tD d T)]) rfl len) rfl) (by omega) (by omega)) e) rfl
  have res := mkF_rt (n := 6) (s := B_xkept) (args := [ze p, .dat (tD d T), ze x]) (M := M) (M1 := M ++ [none]) (d := rD (keptL p d T x)) (by
    refine sSeq_nx (M1 := M ++ [some []]) (ρ1 := [some (ze p), some (.dat (tD d T)), some (ze x), some (.cel M.length), none, none]) rfl (sSeq_nx (M1 := M ++ [none]) hf ?_)
    show some (Ctl.rt (.dat (.tuple ((List.range d).map fun c => .int (hor p x (colL d T c))))) _) = _
    unfold rD keptL
    rw [List.map_map]; rfl)
  rw [List.take_left' rfl] at res
  exact res
def tabT (k d : Nat) (rs : List Int) (r c : Nat) : Int := rs.getD (min r c * d + max r c) 0 * (if min r c < k then 1 else 0)
theorem tabT_sym (k d : Nat) (rs : List Int) (r c : Nat) : tabT k d rs r c = tabT k d rs c r := by
  unfold tabT
  rw [Nat.min_comm, Nat.max_comm]
theorem tabT_b {p : Int} {k d : Nat} {rs : List Int} (hp : 0 < p) (h : ∀ z ∈ rs, 0 ≤ z ∧ z < p) (r c : Nat) : 0 ≤ tabT k d rs r c ∧ tabT k d rs r c < p := by
  unfold tabT
  have hg : 0 ≤ rs.getD (min r c * d + max r c) 0 ∧ rs.getD (min r c * d + max r c) 0 < p := by
    rw [List.getD_eq_getElem?_getD]
    cases e : rs[min r c * d + max r c]? with
    | none => exact ⟨Int.le_refl 0, hp⟩
    | some z => exact h z (List.mem_of_getElem? e)
  split
  · rw [Int.mul_one]; exact hg
  · rw [Int.mul_zero]; exact ⟨Int.le_refl 0, hp⟩
abbrev shD (p k d l : Int) : PyData := .tuple [.int p, .int k, .int d, .int l]
theorem min2_nat {M : Mem} (a b : Nat) : fMin2 M [ze (a : Int), ze (b : Int)] = some (ze ((min a b : Nat) : Int)) := by
  show some (ze (if (b : Int) < (a : Int) then (b : Int) else (a : Int))) = _
  congr 3
  split <;> omega
theorem max2_nat {M : Mem} (a b : Nat) : fMax2 M [ze (a : Int), ze (b : Int)] = some (ze ((max a b : Nat) : Int)) := by
  show some (ze (if (b : Int) > (a : Int) then (b : Int) else (a : Int))) = _
  congr 3
  split <;> omega
theorem xshape_ok {rest : Mem} {b most : Int} {M : Mem} (h : Gd rest b M) (hb : b < 14000000) (hm : 1 ≤ most ∧ most ≤ 10) : ∃ (p l : Int) (k d : Nat) (M' : Mem), F_xshape [.cel 3, ze most] M = some (.dat (shD p k d l), M') ∧ p ∈ [(11 : Int), 13, 17, 31, 101, 211] ∧ 1 ≤ d ∧ (d : Int) ≤ most ∧ 1 ≤ k ∧ k ≤ d ∧ 0 ≤ l ∧ l < (k : Int) ∧ Gd rest (b + 4) M' := by
  obtain ⟨r1, M1, e1, a1, a2, h1⟩ := next_g (many := most) h (by omega) (by omega) (by omega)
  obtain ⟨r2, M2, e2, b1, b2, h2⟩ := next_g (many := 1 + r1) h1 (by omega) (by omega) (by omega)
  obtain ⟨p, M3, e3, hp, h3⟩ := xprime_ok h2 (by omega)
  obtain ⟨l, M4, e4, l1, l2, h4⟩ := next_g (many := 1 + r2) h3 (by omega) (by omega) (by omega)
  refine ⟨p, l, (1 + r2).toNat, (1 + r1).toNat, M4, mkF_rtL (h4.len h).symm ?_, hp, by omega, by omega, by omega, by omega, by omega, by omega, h4.up (by omega)⟩
  rw [show (((1 + r2).toNat : Nat) : Int) = 1 + r2 by omega, show (((1 + r1).toNat : Nat) : Int) = 1 + r1 by omega]
  show B_xshape [some (.cel 3), some (ze most), none, none] M = _
  refine sSeq_nx (M1 := M1) (ρ1 := [some (.cel 3), some (ze most), some (ze (1 + r1)), none]) (by walk_at "sm") ?_
  refine sSeq_nx (M1 := M2) (ρ1 := [some (.cel 3), some (ze most), some (ze (1 + r1)), some (ze (1 + r2))]) (by walk_at "sm") ?_
  walk_at "sm"

/-! ### powers, whatever memory there is -/
def pw (p x : Int) : Nat → Int
  | 0 => 1
  | n + 1 => pw p x n * x % p
def pwl (p x : Int) (n : Nat) : List Int := (List.range n).map (pw p x)
theorem pwl_succ (p x : Int) (n : Nat) : pwl p x (n + 1) = pwl p x n ++ [pw p x n] := by simp [pwl, List.range_succ]
theorem pwl_len (p x : Int) (n : Nat) : (pwl p x n).length = n := by simp [pwl]
theorem pw_dvd (p x : Int) : ∀ n : Nat, p ∣ pw p x n - x ^ n
  | 0 => ⟨0, by simp [pw]⟩
  | n + 1 => by
    obtain ⟨k, hk⟩ := pw_dvd p x n
    obtain ⟨j, hj⟩ := dvd_emod p (pw p x n * x)
    refine ⟨j + k * x, ?_⟩
    have e : pw p x (n + 1) = pw p x n * x % p := rfl
    have e2 : pw p x n = x ^ n + p * k := by omega
    have e3 : pw p x n * x = x ^ n * x + p * (k * x) := by rw [e2, Int.add_mul, Int.mul_assoc]
    rw [e, Int.pow_succ, Int.mul_add]; omega
theorem pw_in {p x : Int} (hp : 1 < p) : ∀ n : Nat, 0 ≤ pw p x n ∧ pw p x n < p
  | 0 => ⟨by simp [pw], hp⟩
  | n + 1 => ⟨Int.emod_nonneg _ (by omega), Int.emod_lt_of_pos _ (by omega)⟩
theorem mem_get (M : Mem) (F : Option (List SV)) : (M ++ [F])[M.length]? = some F := by
  rw [List.getElem?_append_right (Nat.le_refl _), Nat.sub_self]; rfl
theorem mem_set (M : Mem) (F v : Option (List SV)) : (M ++ [F]).set M.length v = M ++ [v] := by
  rw [List.set_append_right _ _ (Nat.le_refl _), Nat.sub_self]; rfl
theorem mem_take (M : Mem) (F : Option (List SV)) : (M ++ [F]).take M.length = M := List.take_left' rfl
theorem powers_okM {p x : Int} {n : Nat} {M : Mem} (hp : 0 < p) (hx : -(2 ^ 64) < x ∧ x < 2 ^ 64) (hn : n ≤ 1000) :
    F_powers_of [ze p, ze (n : Int), ze x] M = some (.dat (.tuple ((pwl p x n).map PyData.int)), M) := by
  obtain ⟨ρ', M', e, o', hρ, hM⟩ := loop_inv (g := gNm 5) (s := sSeq (sApp (eVar 3) (eVar 4)) (sAsg (eOp (lift2 dMod) (eOp (lift2 dMul) (eVar 4) (eVar 2)) (eVar 0)) (gNm 4)))
    (fun k ρ M1 => ∃ o, ρ = [some (ze p), some (ze (n : Int)), some (ze x), some (.cel M.length), some (ze (pw p x k)), o] ∧ M1 = M ++ [some (((pwl p x k).map PyData.int).map SV.dat)]) (rangeD 0 (n : Int)) 0 [some (ze p), some (ze (n : Int)), some (ze x), some (.cel M.length), some (ze 1), none] (M ++ [some []]) ⟨none, rfl, rfl⟩ (by
      rintro i d ρ M1 hd ⟨o, rfl, rfl⟩
      have hi : i < (rangeD 0 (n : Int)).length := (List.getElem?_eq_some_iff.mp hd).1
      rw [rangeD_len] at hi
      rw [Nat.zero_add]
      refine ⟨_, _, [some (ze p), some (ze (n : Int)), some (ze x), some (.cel M.length), some (ze (pw p x (i + 1))), some (.dat d)], M ++ [some (((pwl p x (i + 1)).map PyData.int).map SV.dat)], rfl, ?_, some (.dat d), rfl, rfl⟩
      refine sSeq_nx (M1 := M ++ [some (((pwl p x (i + 1)).map PyData.int).map SV.dat)]) (ρ1 := [some (ze p), some (ze (n : Int)), some (ze x), some (.cel M.length), some (ze (pw p x i)), some (.dat d)]) ?_ ?_
      · have a := sApp_eq (ρ := [some (ze p), some (ze (n : Int)), some (ze x), some (.cel M.length), some (ze (pw p x i)), some (.dat d)]) (o := eVar 3) (a := eVar 4) (M := M ++ [some (((pwl p x i).map PyData.int).map SV.dat)]) (M1 := M ++ [some (((pwl p x i).map PyData.int).map SV.dat)]) (M2 := M ++ [some (((pwl p x i).map PyData.int).map SV.dat)]) (i := M.length) (d := .int (pw p x i)) rfl rfl (mem_get _ _) (mem_get _ _) (by rw [List.length_map, List.length_map, pwl_len]; omega)
        rw [mem_set] at a
        rw [pwl_succ, List.map_append, List.map_append]
        exact a
      · exact sAsg_eq (M1 := M ++ [some (((pwl p x (i + 1)).map PyData.int).map SV.dat)]) (eOp_eq (M1 := M ++ [some (((pwl p x (i + 1)).map PyData.int).map SV.dat)]) (eOp_eq (M1 := M ++ [some (((pwl p x (i + 1)).map PyData.int).map SV.dat)]) (x := ze (pw p x i)) (y := ze x) rfl rfl (l_mul (.inr hx))) (y := ze p) rfl (l_mod hp)) rfl)
  have hl : 0 + (rangeD 0 (n : Int)).length = n := by rw [rangeD_len]; omega
  rw [hl] at hρ hM
  subst hρ hM
  have r : mkF 6 B_powers_of [ze p, ze (n : Int), ze x] M = some (.dat (.tuple ((pwl p x n).map PyData.int)), (M ++ [none]).take M.length) := by
    refine mkF_rt (M1 := M ++ [none]) ?_
    refine sSeq_nx (M1 := M ++ [some []]) (ρ1 := [some (ze p), some (ze (n : Int)), some (ze x), some (.cel M.length), none, none]) rfl (sSeq_nx (M1 := M ++ [some []]) (ρ1 := [some (ze p), some (ze (n : Int)), some (ze x), some (.cel M.length), some (ze 1), none]) rfl ?_)
    refine sSeq_nx (M1 := M ++ [none]) (ρ1 := [some (ze p), some (ze (n : Int)), some (ze x), some (.dat (.list ((pwl p x n).map PyData.int))), some (ze (pw p x n)), o']) ?_ rfl
    have f := sFrz_eq (i := 3) (j := M.length) (M1 := M ++ [some (((pwl p x n).map PyData.int).map SV.dat)]) (sFor_eq (M1 := M ++ [some []]) (iR1_eq (M1 := M ++ [some []]) (aCons_eq (x := ze (n : Int)) (M1 := M ++ [some []]) (a := eVar 1) (as := aNil) rfl rfl) (by omega) (by omega)) e) rfl (mem_get _ _) (dats_map _)
    rw [mem_set] at f
    exact f
  rw [mem_take] at r
  exact r

/-! ### what houses keep: the law's own way, and the program's -/
theorem sm_dvd {p : Int} {f g : Nat → Int} : ∀ {n : Nat}, (∀ i, i < n → p ∣ f i - g i) → p ∣ sm n f - sm n g
  | 0, _ => ⟨0, by simp [sm]⟩
  | n + 1, h => by
    obtain ⟨a, ha⟩ := sm_dvd (n := n) (fun i hi => h i (Nat.lt_succ_of_lt hi))
    obtain ⟨c, hc⟩ := h n (by omega)
    refine ⟨a + c, ?_⟩
    rw [sm, sm, Int.mul_add]; omega
theorem sum_range (f : Nat → Int) : ∀ n : Nat, ((List.range n).map f).sum = sm n f
  | 0 => rfl
  | n + 1 => by rw [List.range_succ, List.map_append, List.sum_append, sum_range f n]; simp [sm]
theorem keep_at (p x : Int) (T : Nat → Nat → Int) (d c : Nat) : sm d (fun r => pw p x r * T r c) % p = hor p x (colL d T c) := by
  rw [hor_ev, ev_sm]
  apply emod_congr
  refine sm_dvd fun r _ => ?_
  obtain ⟨k, hk⟩ := pw_dvd p x r
  refine ⟨k * T r c, ?_⟩
  have e : pw p x r = x ^ r + p * k := by omega
  rw [e, Int.add_mul, Int.mul_comm (T r c), Int.mul_assoc]; omega
theorem pwl_ints (p x : Int) (n : Nat) : (pwl p x n).map PyData.int = (List.range n).map fun r => PyData.int (pw p x r) := by
  unfold pwl; rw [List.map_map]; rfl
theorem kept_ints (p x : Int) (d : Nat) (T : Nat → Nat → Int) : (keptL p d T x).map PyData.int = (List.range d).map fun c => PyData.int (hor p x (colL d T c)) := by
  unfold keptL; rw [List.map_map]; rfl
theorem zipD_range {n : Nat} (f g : Nat → PyData) : zipD ((List.range n).map f) ((List.range n).map g) = (List.range n).map fun r => PyData.tuple [f r, g r] := by
  unfold zipD
  rw [List.zip_map', List.map_map]; rfl
theorem rep_flat (d : Nat) : (List.replicate d [PyData.int 0]).flatten = (List.replicate d (0 : Int)).map PyData.int := by
  rw [List.map_replicate]
  induction d with
  | zero => rfl
  | succ n ih => rw [List.replicate_succ, List.flatten_cons, ih, List.replicate_succ]; rfl
theorem rep0 {ρ : Rho} {M : Mem} {d j : Nat} (hv : ρ[j]? = some (some (ze (d : Int)))) (hd : d ≤ 1000) : eFrz (eRepN (eNew (aCons (eC (.int 0)) aNil)) (eVar j)) ρ M = some (.dat (.list ((List.replicate d (0 : Int)).map PyData.int)), M ++ [some [ze 0]] ++ [none]) := by
  have e1 : eNew (aCons (eC (.int 0)) aNil) ρ M = some (.cel M.length, M ++ [some [ze 0]]) := rfl
  have e2 : eVar j ρ (M ++ [some [ze 0]]) = some (ze (d : Int), M ++ [some [ze 0]]) := eVar_eq hv
  have c : (0 ≤ (d : Int) ∧ (d : Int) ≤ 1000 ∧ [PyData.int 0].length ≤ 100) := ⟨by omega, by omega, by decide⟩
  have g : cellAt (M ++ [some [ze 0]]) (.cel M.length) = some (M.length, [ze 0]) := by simp only [cellAt, mem_get]
  have r : eRepN (eNew (aCons (eC (.int 0)) aNil)) (eVar j) ρ M = some (.cel (M ++ [some [ze 0]]).length, (M ++ [some [ze 0]]) ++ [some (((List.replicate d (0 : Int)).map PyData.int).map SV.dat)]) := by
    unfold eRepN
    rw [e1]
    simp only [Option.bind_some]
    rw [e2]
    simp only [Option.bind_some]
    rw [g]
    show (if 0 ≤ (d : Int) ∧ (d : Int) ≤ 1000 ∧ [PyData.int 0].length ≤ 100 then some (SV.cel _, _) else none) = _
    rw [if_pos c, Int.toNat_natCast, rep_flat]
  unfold eFrz
  rw [r]
  simp only [Option.bind_some, mem_get, dats_map, mem_set]
theorem iZp_e {a : SA} {ρ : Rho} {M M1 : Mem} {d e : PyData} {xs ys : List PyData} (h : a ρ M = some ([.dat d, .dat e], M1)) (h1 : seqD d = some xs) (h2 : seqD e = some ys) : iZp a ρ M = some (zipD xs ys, M1) := by
  simp only [iZp, h, Option.bind_some, h1, h2]
/-- the row kept by the first i rows of the table -/
abbrev keptI (p : Int) (d : Nat) (T : Nat → Nat → Int) (x : Int) (i : Nat) : List Int := (List.range d).map fun c => sm i (fun r => pw p x r * T r c) % p
theorem keptI_step {p x : Int} {d : Nat} {T : Nat → Nat → Int} (i : Nat) : plusL p (pw p x i) (keptI p d T x i) ((List.range d).map fun c => T i c) = keptI p d T x (i + 1) := by
  unfold plusL keptI
  rw [List.zip_map', List.map_map]
  refine List.map_congr_left fun c _ => ?_
  show (sm i (fun r => pw p x r * T r c) % p + pw p x i * T i c) % p = (sm i (fun r => pw p x r * T r c) + pw p x i * T i c) % p
  rw [Int.emod_add_emod]
theorem keptI_end (p x : Int) (d : Nat) (T : Nat → Nat → Int) : keptI p d T x d = keptL p d T x := by
  unfold keptI keptL
  exact List.map_congr_left fun c _ => keep_at p x T d c
theorem keptI_0 (p x : Int) (d : Nat) (T : Nat → Nat → Int) : keptI p d T x 0 = List.replicate d 0 := by
  unfold keptI
  rw [show (fun c => sm 0 (fun r => pw p x r * T r c) % p) = fun _ : Nat => (0 : Int) from funext fun c => by simp [sm], List.map_const', List.length_range]
theorem keeps_ok {p x k l : Int} {d : Nat} {T : Nat → Nat → Int} {M : Mem} (hp : 1 < p ∧ p ≤ 1000) (hx : -(2 ^ 60) < x ∧ x < 2 ^ 60) (hd : d ≤ 100) : F_keeps_of [.dat (shD p k d l), .dat (tD d T), ze x] M = some (.dat (rD (keptL p d T x)), M) := by
  have r0 : ∀ o7 o8 o9 : Option SV, eFrz (eRepN (eNew (aCons (eC (.int 0)) aNil)) (eVar 5)) [some (.dat (shD p k d l)), some (.dat (tD d T)), some (ze x), some (ze p), some (ze k), some (ze (d : Int)), some (ze l), o7, o8, o9] M = some (.dat (.list ((List.replicate d (0 : Int)).map PyData.int)), M ++ [some [ze 0]] ++ [none]) := fun _ _ _ => rep0 rfl (by omega)
  have hlen : (M ++ [some [ze 0]] ++ [none]).take M.length = M := by rw [List.append_assoc]; exact List.take_left' rfl
  generalize M ++ [some [ze 0]] ++ [none] = M2 at *
  have ep := powers_okM (p := p) (x := x) (n := d) (M := M2) (by omega) (by omega) (by omega)
  rw [pwl_ints] at ep
  obtain ⟨ρ', M', e, rfl, o8, o9, rfl⟩ := loop_inv (g := gTp [8, 9]) (s := sAsg (eCall F_with_multiple (aCons (eVar 3) (aCons (eVar 7) (aCons (eVar 8) (aCons (eVar 9) aNil))))) (gNm 7)) (fun i ρ M1 => M1 = M2 ∧ ∃ o8 o9, ρ = [some (.dat (shD p k d l)), some (.dat (tD d T)), some (ze x), some (ze p), some (ze k), some (ze (d : Int)), some (ze l), some (.dat (.list ((keptI p d T x i).map PyData.int))), o8, o9]) ((List.range d).map fun r => PyData.tuple [.tuple ((List.range d).map fun c => .int (T r c)), .int (pw p x r)]) 0 [some (.dat (shD p k d l)), some (.dat (tD d T)), some (ze x), some (ze p), some (ze k), some (ze (d : Int)), some (ze l), some (.dat (.list ((List.replicate d (0 : Int)).map PyData.int))), none, none] M2 ⟨rfl, none, none, by rw [keptI_0]⟩ (by
    rintro i e ρ M1 he ⟨rfl, o8, o9, rfl⟩
    rw [Nat.zero_add]
    rw [List.getElem?_map] at he
    obtain ⟨i', hi', rfl⟩ := Option.map_eq_some_iff.mp he
    obtain ⟨q1, q2⟩ := List.getElem?_eq_some_iff.mp hi'
    rw [List.getElem_range] at q2
    subst q2
    have b := pw_in (p := p) (x := x) hp.1 i
    have m := with_okV (p := p) (f := pw p x i) (a := keptI p d T x i) (b := (List.range d).map fun c => T i c) (M := M1) (v1 := .dat (.list ((keptI p d T x i).map PyData.int))) (v2 := .dat (.tuple ((List.range d).map fun c => .int (T i c)))) (by
      rintro ρ rfl
      rw [List.map_map (f := fun c => T i c)]; rfl) (by omega) (by omega) (by rw [List.length_map, List.length_range]; omega)
    rw [keptI_step] at m
    exact ⟨_, _, [some (.dat (shD p k d l)), some (.dat (tD d T)), some (ze x), some (ze p), some (ze k), some (ze (d : Int)), some (ze l), some (.dat (.list ((keptI p d T x (i + 1)).map PyData.int))), some (.dat (.tuple ((List.range d).map fun c => .int (T i c)))), some (ze (pw p x i))], M1, rfl, sAsg_eq (eCall_eq (M1 := M1) (xs := [ze p, .dat (.list ((keptI p d T x i).map PyData.int)), .dat (.tuple ((List.range d).map fun c => .int (T i c))), ze (pw p x i)]) rfl m) rfl, rfl, _, _, rfl⟩)
  rw [List.length_map, List.length_range, Nat.zero_add, keptI_end] at e
  have res := mkF_rt (n := 10) (s := B_keeps_of) (args := [.dat (shD p k d l), .dat (tD d T), ze x]) (M := M) (M1 := M') (d := rD (keptL p d T x)) (by
    refine sSeq_nx (M1 := M) (ρ1 := [some (.dat (shD p k d l)), some (.dat (tD d T)), some (ze x), some (ze p), some (ze k), some (ze (d : Int)), some (ze l), none, none, none]) rfl ?_
    refine sSeq_nx (M1 := M') (ρ1 := [some (.dat (shD p k d l)), some (.dat (tD d T)), some (ze x), some (ze p), some (ze k), some (ze (d : Int)), some (ze l), some (.dat (.list ((List.replicate d (0 : Int)).map PyData.int))), none, none]) (sAsg_eq (r0 _ _ _) rfl) ?_
    refine sSeq_nx (M1 := M') (sFor_eq (M1 := M') (ds := (List.range d).map fun r => PyData.tuple [.tuple ((List.range d).map fun c => .int (T r c)), .int (pw p x r)]) ?_ e) rfl
    rw [← zipD_range]
    exact iZp_e (aCons_eq (M1 := M') (x := .dat (tD d T)) rfl (aCons_eq (M1 := M') (eCall_eq (M1 := M') (xs := [ze p, ze (d : Int), ze x]) rfl ep) rfl)) rfl rfl)
  rw [hlen] at res
  exact res

end Lk38

namespace Lk38
open PySem Sm L2
local macro_rules
  | `(tactic| walk_at "le") => `(tactic| ((try simp only [List.length_cons, List.length_nil, List.length_append, List.length_map]); omega))
local macro_rules
  | `(tactic| walk_at "smb") => `(tactic| first
    | with_reducible assumption
    | with_reducible rfl
    | assumption
    | rfl
    | (simp only [decide_eq_true_eq, decide_eq_false_iff_not, beq_iff_eq, Bool.not_eq_true', Bool.not_eq_false', beq_eq_false_iff_ne, Bool.and_eq_true, Bool.or_eq_true, Bool.not_eq_true, Bool.not_eq_false, ne_eq, Bool.and_eq_false_imp, Bool.or_eq_false_iff]; omega))
local macro_rules
  | `(tactic| walk_at "smf") => `(tactic| fail "no call")
local macro_rules
  | `(tactic| walk_at "sml") => `(tactic| first
    | with_reducible assumption
    | with_reducible exact l_add
    | with_reducible exact l_sub
    | with_reducible exact l_eq
    | with_reducible exact l_ne
    | with_reducible exact l_lt
    | with_reducible exact l_le
    | with_reducible exact l_gt
    | with_reducible exact l_ge
    | with_reducible exact l_eqSS
    | with_reducible exact l_neSS
    | with_reducible exact l_eqBS
    | with_reducible exact l_neBS
    | with_reducible exact l_eqB
    | with_reducible exact l_neB
    | with_reducible exact l_eqS
    | with_reducible exact l_neS
    | with_reducible exact l_neg
    | with_reducible exact isi_int _
    | with_reducible exact isi_bool _
    | with_reducible exact isi_tup _
    | with_reducible exact l_lenL
    | with_reducible exact l_lenT
    | with_reducible exact l_slL
    | with_reducible exact l_slT
    | ((with_reducible apply l_mod); (walk_at "smo"))
    | ((with_reducible apply l_mul); (walk_at "smo"))
    | ((with_reducible apply l_div); (walk_at "smo"); (walk_at "smo"))
    | ((with_reducible apply l_addT); rfl)
    | ((with_reducible apply l_addL); rfl)
    | ((with_reducible apply l_ixL); first | assumption | rfl)
    | ((with_reducible apply l_ixT); first | assumption | rfl)
    | ((with_reducible apply one_eq); (walk_at "sml"))
    | with_reducible assumption
    | rfl)
local macro_rules
  | `(tactic| walk_at "smo") => `(tactic| first | assumption | omega)
local macro_rules
  | `(tactic| walk_at "sm") => `(tactic| first
    | with_reducible assumption
    | with_reducible exact aNil_eq
    | with_reducible exact eC_eq
    | with_reducible exact sNext_eq
    | with_reducible exact eD0_eq
    | ((with_reducible apply eD1_eq); (walk_at "sm"))
    | ((with_reducible apply eC_e); rfl)
    | with_reducible exact oNone_eq
    | ((with_reducible apply eVar_eq); rfl)
    | ((with_reducible apply aCons_eq); (walk_at "sm"); (walk_at "sm"))
    | ((with_reducible apply eOp_eq); (walk_at "sm"); (walk_at "sm"); (walk_at "sml"))
    | ((with_reducible apply eUn_eq); (walk_at "sm"); (walk_at "sml"))
    | ((with_reducible apply eCB_eq); (walk_at "sm"); (walk_at "sml"))
    | ((with_reducible apply eCall_eq); (walk_at "sm"); (first | with_reducible assumption | walk_at "smf"))
    | ((with_reducible apply eTup_e); (walk_at "sm"); rfl; rfl)
    | ((with_reducible apply eLst_e); (walk_at "sm"); rfl; rfl)
    | ((with_reducible apply oSome_eq); (walk_at "sm"))
    | ((with_reducible apply eSl_eq); (walk_at "sm"); (walk_at "sm"); (walk_at "sm"); (walk_at "sml"))
    | ((with_reducible apply eNot_eq); (walk_at "sm"))
    | ((with_reducible apply bNot_eq); (walk_at "sm"))
    | ((with_reducible apply bVal_eq); (walk_at "sm"))
    | ((with_reducible apply bTru_b); (walk_at "sm"))
    | ((with_reducible apply eChain_e); (walk_at "sm"); (walk_at "sm"); (walk_at "sml"); (walk_at "sm"); (walk_at "sml"))
    | ((with_reducible apply eChain3_e); (walk_at "sm"); (walk_at "sm"); (walk_at "sml"); (walk_at "sm"); (walk_at "sml"); (walk_at "sm"); (walk_at "sml"))
    | ((with_reducible apply bOr_e); (walk_at "sm"); (first | ((apply ite_T); (walk_at "smb"); rfl) | ((apply ite_F); (walk_at "smb"); (walk_at "sm")) | ((apply or_gen); (walk_at "sm"))))
    | ((with_reducible apply bAnd_e); (walk_at "sm"); (first | ((apply ite_F); (walk_at "smb"); rfl) | ((apply ite_T); (walk_at "smb"); (walk_at "sm")) | ((apply and_gen); (walk_at "sm"))))
    | ((with_reducible apply eOr_e); (walk_at "sm"); (first | ((apply ite_T); (walk_at "smb"); rfl) | ((apply ite_F); (walk_at "smb"); (walk_at "sm")) | ((apply eor_gen); (walk_at "sm"))))
    | ((with_reducible apply eAnd_e); (walk_at "sm"); (first | ((apply ite_F); (walk_at "smb"); rfl) | ((apply ite_T); (walk_at "smb"); (walk_at "sm")) | ((apply eand_gen); (walk_at "sm"))))
    | ((with_reducible apply eIf_e); (walk_at "sm"); (first | ((apply ite_T); (walk_at "smb"); (walk_at "sm")) | ((apply ite_F); (walk_at "smb"); (walk_at "sm"))))
    | ((with_reducible apply sIf_e); (walk_at "sm"); (first | ((apply ite_T); (walk_at "smb"); (walk_at "sm")) | ((apply ite_F); (walk_at "smb"); (walk_at "sm"))))
    | ((with_reducible apply sSeq_e); (walk_at "sm"); (first | with_reducible exact seqK_rt | ((with_reducible apply seqK_nx); (walk_at "sm")) | ((with_reducible refine Eq.trans seqK_rt ?_); rfl)))
    | ((with_reducible apply sRet_eq); (walk_at "sm"))
    | ((with_reducible apply sAsg_eq); (walk_at "sm"); (walk_at "smg"))
    | with_reducible assumption
    | walk_at "smx")
local macro_rules
  | `(tactic| walk_at "smx") => `(tactic| fail "no step")
local macro_rules
  | `(tactic| walk_at "smg") => `(tactic| first
    | ((with_reducible apply gNm_e); ((dsimp only [List.set]) <;> rfl))
    | ((with_reducible apply gTp_e); rfl; ((dsimp only [setAll, List.set]) <;> rfl))
    | rfl)

abbrev Lb_xrows_right_6_1 : SS := (sSeq (sAsg (eCB (one fTuple) (aCons (eCB (one fSortK) (aCons (eOp (lift2 dAdd) (eZp .list (aCons (eVar 2) (aCons (eVar 7) aNil))) (eLst (aCons (eTup (aCons (eVar 8) (aCons (eCall F_xvalue (aCons (eVar 1) (aCons (eVar 9) (aCons (eVar 8) aNil)))) aNil))) aNil))) aNil)) aNil)) (gNm 10))
    (sSeq (sAsg (eCB (one fTuple) (aCons (eLc (iDat (eVar 10)) (gTp [12, 13]) (bVal (eOp (lift2 dNe) (eCall F_xvalue (aCons (eVar 1) (aCons (eVar 9) (aCons (eVar 12) aNil)))) (eVar 13))) (eVar 12) [12, 13]) aNil)) (gNm 11))
    (sIf (bVal (eOp (lift2 dNe) (eCB (one (lift1 dRepr)) (aCons (eCall F_fitting (aCons (eVar 1) (aCons (eCB (one fLen) (aCons (eVar 5) aNil)) (aCons (eVar 10) aNil)))) aNil)) (eCB (one (lift1 dRepr)) (aCons (eTup (aCons (eVar 9) (aCons (eVar 11) aNil))) aNil)))) (sRet (eC (.bool false))) sNext)))
abbrev Lb_alike_on_3_1 : SS := (sAsg (eCall F_with_nought_at (aCons (eVar 2) (aCons (eVar 6) (aCons (eVar 7) aNil)))) (gNm 6))
abbrev Lb_read_back_4_1 : SS := (sSeq (sAsg (eIf (bVal (eOp (lift2 dLt) (eVar 7) (eVar 3))) (eCB (one fTuple) (aCons (eLc (iR2 (aCons (eVar 3) (aCons (eVar 4) aNil))) (gNm 10) bYes (eOp fIx (eOp fIx (eVar 6) (eVar 10)) (eVar 7)) [10]) aNil)) (eOp (lift2 dMul) (eTup (aCons (eC (.int 0)) aNil)) (eOp (lift2 dSub) (eVar 4) (eVar 3)))) (gNm 8))
    (sAsg (eCall F_column_through (aCons (eVar 2) (aCons (eVar 3) (aCons (eVar 7) (aCons (eVar 1) (aCons (eVar 8) aNil)))))) (gStore (eVar 6) (eVar 7))))
abbrev Lb_read_right_3_1 : SS := (sSeq (sAsg (eCall F_read_back (aCons (eVar 0) (aCons (eVar 4) aNil))) (gNm 5))
    (sIf (bVal (eOp (lift2 dNotN) (eVar 5) (eC .none))) (sSeq (sAsg (eCall F_keeping_others (aCons (eVar 0) (aCons (eVar 5) (aCons (eVar 1) aNil)))) (gNm 6))
    (sIf (bVal (eOp (lift2 dLe) (eCB (one fLen) (aCons (eVar 6) aNil)) (eVar 3))) (sRet (eTup (aCons (eVar 5) (aCons (eVar 6) aNil)))) sNext)) sNext))
abbrev Lb_xtables_right_7_1 : SS := (sSeq (sAsg (eCB (one fTuple) (aCons (eCB (one fSortK) (aCons (eOp (lift2 dAdd) (eZp .list (aCons (eVar 7) (aCons (eVar 11) aNil))) (eLst (aCons (eTup (aCons (eVar 12) (aCons (eCall F_xkept (aCons (eVar 2) (aCons (eVar 13) (aCons (eVar 12) aNil)))) aNil))) aNil))) aNil)) aNil)) (gNm 14))
    (sSeq (sAsg (eCB (one fTuple) (aCons (eLc (iDat (eVar 14)) (gTp [16, 17]) (bVal (eOp (lift2 dNe) (eCall F_xkept (aCons (eVar 2) (aCons (eVar 13) (aCons (eVar 16) aNil)))) (eVar 17))) (eVar 16) [16, 17]) aNil)) (gNm 15))
    (sIf (bVal (eOp (lift2 dNe) (eCB (one (lift1 dRepr)) (aCons (eCall F_read_right (aCons (eVar 1) (aCons (eVar 14) aNil))) aNil)) (eCB (one (lift1 dRepr)) (aCons (eTup (aCons (eVar 13) (aCons (eVar 15) aNil))) aNil)))) (sRet (eC (.bool false))) sNext)))
abbrev Lb_law_2_1 : SS := (sIf (bOr (bNot (bVal (eCall F_xrows_right (aCons (eVar 1) aNil)))) (bNot (bVal (eCall F_xtables_right (aCons (eVar 1) aNil))))) (sRet (eC (.bool false))) sNext)

theorem ints_in {p : Int} : ∀ (out : List PyData), (∀ x ∈ out, ∃ z, x = PyData.int z ∧ 0 ≤ z ∧ z < p) → ∃ zs : List Int, out = zs.map PyData.int ∧ zs.length = out.length ∧ ∀ z ∈ zs, 0 ≤ z ∧ z < p
  | [], _ => ⟨[], rfl, rfl, fun _ z => nomatch z⟩
  | x :: out, h => by
    obtain ⟨z, rfl, z1, z2⟩ := h x List.mem_cons_self
    obtain ⟨zs, rfl, hl, hz⟩ := ints_in out (fun y hy => h y (List.mem_cons_of_mem _ hy))
    refine ⟨z :: zs, rfl, by simp, fun w hw => ?_⟩
    rcases List.mem_cons.mp hw with q | q
    · rw [q]; exact ⟨z1, z2⟩
    · exact hz w q
theorem shaped_ints : ∀ zs : List Int, PyData.canLayAll0 (zs.map PyData.int) = true ∧ PyData.depthAll (zs.map PyData.int) = 0
  | [] => ⟨rfl, rfl⟩
  | z :: zs => by
    obtain ⟨h1, h2⟩ := shaped_ints zs
    exact ⟨by simp [PyData.canLayAll0, PyData.canLay0, h1], by simp [PyData.depthAll, PyData.depth, h2]⟩
theorem shaped_row (zs : List Int) : SeqAt.shaped (.tuple (zs.map PyData.int)) = true := by
  obtain ⟨h1, h2⟩ := shaped_ints zs
  simp [SeqAt.shaped, PyData.canLay0, PyData.depth, h1, h2]
theorem l_eqE {M : Mem} (zs : List Int) : lift2 dEq M (.dat (.tuple (zs.map PyData.int))) (.dat (.tuple [])) = some (.dat (.bool zs.isEmpty)) := by
  have h := shaped_row zs
  have h' := shaped_row []
  rw [List.map_nil] at h'
  have e : PyData.eqv (.tuple (zs.map PyData.int)) (.tuple []) = zs.isEmpty := by cases zs <;> simp [PyData.eqv, PyData.eqvAll]
  simp only [lift2, dEq, h, h', Bool.and_self, if_true, Option.bind_some, e]

def restB (p : Int) : PyData → Bool
  | .int i => decide (0 ≤ i) && decide (i < p)
  | _ => false
def rowB (p n : Int) : PyData → Bool
  | .tuple ds => ((ds.length : Int) == n) && ds.all (restB p)
  | _ => false
theorem rowB_nt {p n : Int} {d : PyData} (h : kTup d = false) : rowB p n d = false := by cases d <;> first | rfl | cases h
theorem filt_all (f : PyData → Bool) : ∀ ds : List PyData, ((ds.filter fun d => !f d).map fun d => d).isEmpty = ds.all f
  | [] => rfl
  | d :: ds => by
    have ih := filt_all f ds
    cases h : f d with
    | true => simp only [List.filter_cons, h, Bool.not_true, Bool.false_eq_true, if_false, List.all_cons, Bool.true_and]; exact ih
    | false => simp [List.filter_cons, h]
theorem rowB_row {p n : Int} {zs : List Int} (hl : (zs.length : Int) = n) (h : ∀ z ∈ zs, 0 ≤ z ∧ z < p) : rowB p n (.tuple (zs.map PyData.int)) = true := by
  have : (zs.map PyData.int).all (restB p) = true := by
    rw [List.all_eq_true]
    intro x hx
    obtain ⟨z, hz, rfl⟩ := List.mem_map.mp hx
    have := h z hz
    simp [restB, this.1, this.2]
  simp only [rowB, this, List.length_map, hl, beq_self_eq_true, Bool.and_self]
theorem shaped_pairs : ∀ ps : List (Int × Int), PyData.canLayAll0 (ps.map pD) = true ∧ PyData.depthAll (ps.map pD) ≤ 1
  | [] => ⟨rfl, by simp [PyData.depthAll]⟩
  | q :: ps => by
    obtain ⟨h1, h2⟩ := shaped_pairs ps
    exact ⟨by simp [PyData.canLayAll0, PyData.canLay0, h1], by simp [PyData.depthAll, PyData.depth]; omega⟩
theorem l_neSame {M : Mem} {xs : List PyData} (h : SeqAt.shaped (.tuple xs) = true) : lift2 dNe M (.dat (.tuple xs)) (.dat (.tuple xs)) = some (.dat (.bool false)) := by
  have e : PyData.eqv (.tuple xs) (.tuple xs) = true := SeqAt.eqv_refl _ (SeqAt.canLay_of_shaped h)
  simp only [lift2, dNe, h, Bool.and_self, if_true, Option.bind_some, e, Bool.not_true]
theorem l_eqSame {M : Mem} {xs : List PyData} (h : SeqAt.shaped (.tuple xs) = true) : lift2 dEq M (.dat (.tuple xs)) (.dat (.tuple xs)) = some (.dat (.bool true)) := by
  have e : PyData.eqv (.tuple xs) (.tuple xs) = true := SeqAt.eqv_refl _ (SeqAt.canLay_of_shaped h)
  simp only [lift2, dEq, h, Bool.and_self, if_true, Option.bind_some, e]
theorem pairs_shaped (ps : List (Int × Int)) : SeqAt.shaped (.tuple (ps.map pD)) = true := by
  obtain ⟨h1, h2⟩ := shaped_pairs ps
  have h3 : (PyData.tuple (ps.map pD)).depth ≤ 64 := by simp only [PyData.depth]; omega
  have h4 : (PyData.tuple (ps.map pD)).canLay0 = true := by simp only [PyData.canLay0]; exact h1
  unfold SeqAt.shaped
  rw [h4, decide_eq_true h3]; rfl

theorem boolsOf_map (f : PyData → Bool) : ∀ ds : List PyData, boolsOf (ds.map fun d => .bool (f d)) = some (ds.map f)
  | [] => rfl
  | d :: ds => by simp only [List.map_cons, boolsOf, boolsOf_map f ds, Option.bind_some]
theorem all_map {M : Mem} (f : PyData → Bool) (ds : List PyData) : lift1 dAll M (.dat (.list (ds.map fun d => .bool (f d)))) = some (.dat (.bool (ds.all f))) := by
  simp only [lift1, dAll, boolsOf_map, Option.bind_some]
  rw [List.all_map]; rfl

theorem is_number_ok (d : PyData) (M : Mem) : F_is_number [.dat d] M = some (.dat (.bool (kNum d)), M) := by
  refine mkF_e ?_ rfl
  rw [← knum d]
  show B_is_number [some (.dat d)] M = _
  walk_at "sm"
theorem is_rest_ok (p : Int) (d : PyData) (M : Mem) : F_is_rest [ze p, .dat d] M = some (.dat (.bool (restB p d)), M) := by
  have hn := is_number_ok d M
  refine mkF_e ?_ rfl
  show B_is_rest [some (ze p), some (.dat d)] M = _
  cases d <;> (unfold restB; walk_at "sm")
theorem is_row_ok {p n : Int} (hn : n ≤ 1000) (d : PyData) (M : Mem) : F_is_row [ze p, ze n, .dat d] M = some (.dat (.bool (rowB p n d)), M) := by
  refine mkF_e ?_ rfl
  show B_is_row [some (ze p), some (ze n), some (.dat d), none] M = _
  by_cases ht : kTup d = true
  · cases d <;> first | cases ht | skip
    rename_i ds
    by_cases hl : (ds.length : Int) = n
    · have lc : eLc (iDat (eVar 2)) (gNm 3) bYes (eCall F_is_rest (aCons (eVar 0) (aCons (eVar 3) aNil))) [3] [some (ze p), some (ze n), some (.dat (.tuple ds)), none] M = some (.dat (.list (ds.map fun d => .bool (restB p d))), M) := by
        refine eLc_eq (M1 := M) (iDat_t rfl) (by omega) (lcL_map (f := fun d => .bool (restB p d)) ds fun d hd => ⟨_, rfl, ?_⟩)
        have := is_rest_ok p d M
        exact eCall_eq (M1 := M) (xs := [ze p, .dat d]) rfl this
      have hm := all_map (M := M) (restB p) ds
      have e : rowB p n (.tuple ds) = ds.all (restB p) := by simp [rowB, hl]
      rw [e]
      have hl' : (!((ds.length : Int) == n)) = false := by simp [hl]
      walk_at "sm"
    · have e : rowB p n (.tuple ds) = false := by simp [rowB, hl]
      rw [e]
      have hl' : (!((ds.length : Int) == n)) = true := by simp [hl]
      walk_at "sm"
  · have ht' : kTup d = false := by simpa using ht
    rw [rowB_nt ht']
    have hh : (!kTup d) = true := by rw [ht']; rfl
    walk_at "sm"

/-! ### things written out -/
structure Sw (d : PyData) (k w : Nat) : Prop where
  sh : d.showable = true
  dp : d.depth ≤ k
  wl : wt d ≤ w
  nd : d.hasDict = false
theorem Sw.int {z : Int} (h : -(2 ^ 60) < z ∧ z < 2 ^ 60) : Sw (.int z) 0 1921 := by
  have h2 : z.natAbs < 2 ^ 60 := by omega
  have h3 : z.natAbs.log2 < 1920 := by
    by_cases hz : z.natAbs = 0
    · rw [hz]; decide
    · exact Nat.lt_trans ((Nat.log2_lt hz).mpr h2) (by decide)
  exact ⟨by simp only [PyData.showable, decide_eq_true h3], Nat.le_refl _, Nat.le_refl _, rfl⟩
theorem Sw.none : Sw .none 0 4 := ⟨rfl, Nat.le_refl _, Nat.le_refl _, rfl⟩
theorem Sw.bool {b : Bool} : Sw (.bool b) 0 5 := ⟨rfl, Nat.le_refl _, Nat.le_refl _, rfl⟩
theorem Sw.up {d : PyData} {k w k' w' : Nat} (h : Sw d k w) (h1 : k ≤ k') (h2 : w ≤ w') : Sw d k' w' := ⟨h.sh, Nat.le_trans h.dp h1, Nat.le_trans h.wl h2, h.nd⟩
theorem Sw.all {k w : Nat} : ∀ {ds : List PyData}, (∀ d ∈ ds, Sw d k w) → PyData.showableAll ds = true ∧ PyData.depthAll ds ≤ k ∧ wtAll ds ≤ ds.length * (w + 2) ∧ PyData.hasDictAll ds = false
  | [], _ => ⟨rfl, Nat.zero_le _, Nat.zero_le _, rfl⟩
  | d :: ds, h => by
    obtain ⟨h1, h2, h3, h4⟩ := Sw.all (ds := ds) fun x hx => h x (List.mem_cons_of_mem _ hx)
    have q := h d List.mem_cons_self
    have q2 := q.dp
    have q3 := q.wl
    refine ⟨by simp only [PyData.showableAll, q.sh, h1, Bool.and_self], by simp only [PyData.depthAll]; omega, ?_, by simp only [PyData.hasDictAll, q.nd, h4, Bool.or_self]⟩
    simp only [wtAll, List.length_cons, Nat.add_mul, Nat.one_mul]; omega
theorem Sw.tup {ds : List PyData} {k w : Nat} (h : ∀ d ∈ ds, Sw d k w) : Sw (.tuple ds) (k + 1) (3 + ds.length * (w + 2)) := by
  obtain ⟨h1, h2, h3, h4⟩ := Sw.all h
  exact ⟨by simp only [PyData.showable, h1], by simp only [PyData.depth]; omega, by simp only [wt]; omega, by simp only [PyData.hasDict, h4]⟩
theorem Sw.lst {ds : List PyData} {k w : Nat} (h : ∀ d ∈ ds, Sw d k w) : Sw (.list ds) (k + 1) (3 + ds.length * (w + 2)) := by
  obtain ⟨h1, h2, h3, h4⟩ := Sw.all h
  exact ⟨by simp only [PyData.showable, h1], by simp only [PyData.depth]; omega, by simp only [wt]; omega, by simp only [PyData.hasDict, h4]⟩
theorem Sw.row {zs : List Int} {n : Nat} (h : ∀ z ∈ zs, 0 ≤ z ∧ z < 1000) (hn : zs.length ≤ n) : Sw (.tuple (zs.map PyData.int)) 1 (3 + n * 1923) := by
  refine (Sw.tup (k := 0) (w := 1921) fun d hd => ?_).up (Nat.le_refl _) ?_
  · obtain ⟨z, hz, rfl⟩ := List.mem_map.mp hd
    have := h z hz
    exact Sw.int (by omega)
  · rw [List.length_map]
    exact Nat.add_le_add_left (Nat.mul_le_mul_right _ hn) 3
theorem Sw.repr {d : PyData} {k w : Nat} {M : Mem} (h : Sw d k w) (h1 : k ≤ 64) (h2 : Nat.ble w 1000000 = true) : lift1 dRepr M (.dat d) = some (.dat (.str d.shown)) := by
  refine l_repr ?_
  rw [h.sh, h.nd, decide_eq_true (Nat.le_trans h.dp h1), decide_eq_true (Nat.le_trans h.wl (ble_le h2))]
  rfl
theorem rising_eq : ∀ {l1 l2 : List Int}, l1.Pairwise (· < ·) → l2.Pairwise (· < ·) → (∀ x, x ∈ l1 ↔ x ∈ l2) → l1 = l2
  | [], [], _, _, _ => rfl
  | [], b :: l2, _, _, h => absurd ((h b).mpr List.mem_cons_self) List.not_mem_nil
  | a :: l1, [], _, _, h => absurd ((h a).mp List.mem_cons_self) List.not_mem_nil
  | a :: l1, b :: l2, h1, h2, h => by
    obtain ⟨a1, a2⟩ := List.pairwise_cons.mp h1
    obtain ⟨b1, b2⟩ := List.pairwise_cons.mp h2
    have e : a = b := by
      rcases List.mem_cons.mp ((h a).mp List.mem_cons_self) with q | q
      · exact q
      · rcases List.mem_cons.mp ((h b).mpr List.mem_cons_self) with r | r
        · exact r.symm
        · have := b1 a q; have := a1 b r; omega
    subst e
    rw [rising_eq a2 b2 fun x => ?_]
    constructor
    · intro hx
      rcases List.mem_cons.mp ((h x).mp (List.mem_cons_of_mem _ hx)) with q | q
      · have := a1 x hx; omega
      · exact q
    · intro hx
      rcases List.mem_cons.mp ((h x).mpr (List.mem_cons_of_mem _ hx)) with q | q
      · have := b1 x hx; omega
      · exact q

/-! ### rows compared, zipped, repeated; what is written -/
theorem eZp_e {k : List PyData → PyData} {a : SA} {ρ : Rho} {M M1 : Mem} {d e : PyData} {xs ys : List PyData} (h : a ρ M = some ([.dat d, .dat e], M1)) (h1 : seqD d = some xs) (h2 : seqD e = some ys) (h3 : min xs.length ys.length ≤ 100000) : eZp k a ρ M = some (.dat (k (zipD xs ys)), M1) := by
  simp only [eZp, h, Option.bind_some, h1, h2, h3, if_true]
theorem l_rep {M : Mem} {z k : Int} (h0 : 0 ≤ k) (h1 : k ≤ 1000) : lift2 dMul M (.dat (.tuple [.int z])) (ze k) = some (.dat (rD (List.replicate k.toNat z))) := by
  have e : (List.replicate k.toNat [PyData.int z]).flatten = (List.replicate k.toNat z).map PyData.int := by
    rw [List.map_replicate]
    induction k.toNat with
    | zero => rfl
    | succ n ih => rw [List.replicate_succ, List.flatten_cons, ih, List.replicate_succ]; rfl
  have c : ([PyData.int z] ≠ [] ∧ 0 ≤ k ∧ k ≤ 1000 ∧ [PyData.int z].length ≤ 1000) := ⟨by simp, h0, h1, by simp⟩
  show ((if [PyData.int z] ≠ [] ∧ 0 ≤ k ∧ k ≤ 1000 ∧ [PyData.int z].length ≤ 1000 then some (PyData.tuple (List.replicate k.toNat [PyData.int z]).flatten) else none).bind fun r => some (SV.dat r)) = _
  rw [if_pos c, e]; rfl
theorem eqv_ints : ∀ a b : List Int, PyData.eqvAll (a.map PyData.int) (b.map PyData.int) = (a == b)
  | [], [] => by simp [PyData.eqvAll]
  | [], _ :: _ => by simp [PyData.eqvAll]
  | _ :: _, [] => by simp [PyData.eqvAll]
  | x :: a, y :: b => by
    simp only [List.map_cons, PyData.eqvAll, PyData.eqv, eqv_ints a b, List.cons_beq_cons]
theorem ints_lay : ∀ a : List Int, PyData.canLayAll0 (a.map PyData.int) = true ∧ PyData.depthAll (a.map PyData.int) ≤ 0
  | [] => ⟨rfl, by simp [PyData.depthAll]⟩
  | x :: a => by
    obtain ⟨h1, h2⟩ := ints_lay a
    exact ⟨by simp [PyData.canLayAll0, PyData.canLay0, h1], by simp [PyData.depthAll, PyData.depth]; omega⟩
theorem ints_shaped (a : List Int) : SeqAt.shaped (.tuple (a.map PyData.int)) = true := by
  obtain ⟨h1, h2⟩ := ints_lay a
  have h3 : (PyData.tuple (a.map PyData.int)).depth ≤ 64 := by simp only [PyData.depth]; omega
  have h4 : (PyData.tuple (a.map PyData.int)).canLay0 = true := by simp only [PyData.canLay0]; exact h1
  unfold SeqAt.shaped
  rw [h4, decide_eq_true h3]; rfl
theorem l_eqInts {M : Mem} (a b : List Int) : lift2 dEq M (.dat (.tuple (a.map PyData.int))) (.dat (.tuple (b.map PyData.int))) = some (.dat (.bool (a == b))) := by
  have e : PyData.eqv (.tuple (a.map PyData.int)) (.tuple (b.map PyData.int)) = (a == b) := by simp only [PyData.eqv]; exact eqv_ints a b
  simp only [lift2, dEq, ints_shaped, Bool.and_self, if_true, Option.bind_some, e]
theorem l_neInts {M : Mem} (a b : List Int) : lift2 dNe M (.dat (.tuple (a.map PyData.int))) (.dat (.tuple (b.map PyData.int))) = some (.dat (.bool (!(a == b)))) := by
  have e : PyData.eqv (.tuple (a.map PyData.int)) (.tuple (b.map PyData.int)) = (a == b) := by simp only [PyData.eqv]; exact eqv_ints a b
  simp only [lift2, dNe, ints_shaped, Bool.and_self, if_true, Option.bind_some, e]
def intB : PyData → Bool
  | .int _ => true
  | _ => false
theorem intB_not {p : Int} {d : PyData} (h : intB d = false) : restB p d = false := by cases d <;> first | rfl | cases h
theorem sh_sw {p k d l : Int} (h1 : 0 ≤ p ∧ p < 1000) (h2 : 0 ≤ k ∧ k < 1000) (h3 : 0 ≤ d ∧ d < 1000) (h4 : 0 ≤ l ∧ l < 1000) : Sw (shD p k d l) 1 (3 + 4 * 1923) :=
  Sw.row (zs := [p, k, d, l]) (n := 4) (by
    intro z hz
    simp only [List.mem_cons, List.not_mem_nil, or_false] at hz
    rcases hz with rfl | rfl | rfl | rfl <;> assumption) (Nat.le_refl _)
theorem lst2_sw {a b : PyData} {k w : Nat} (ha : Sw a k w) (hb : Sw b k w) : Sw (.list [a, b]) (k + 1) (3 + 2 * (w + 2)) :=
  Sw.lst (ds := [a, b]) (by
    intro d hd
    rcases List.mem_cons.mp hd with z | z
    · rw [z]; exact ha
    · rw [List.mem_singleton] at z; rw [z]; exact hb)
theorem pairs_sw {ps : List (Int × Int)} {n : Nat} (h1 : ∀ q ∈ ps, 0 ≤ q.1 ∧ q.1 < 1000) (h2 : ∀ q ∈ ps, 0 ≤ q.2 ∧ q.2 < 1000) (hn : ps.length ≤ n) : Sw (.tuple (ps.map pD)) 2 (3 + n * (3 + 2 * 1923 + 2)) := by
  refine (Sw.tup (k := 1) (w := 3 + 2 * 1923) fun d hd => ?_).up (Nat.le_refl _) ?_
  · obtain ⟨q, hq, rfl⟩ := List.mem_map.mp hd
    refine Sw.row (zs := [q.1, q.2]) (n := 2) (fun z hz => ?_) (Nat.le_refl _)
    rcases List.mem_cons.mp hz with e | e
    · rw [e]; exact h1 q hq
    · rw [List.mem_singleton] at e; rw [e]; exact h2 q hq
  · rw [List.length_map]
    exact Nat.add_le_add_left (Nat.mul_le_mul_right _ hn) 3
theorem loop3 {g : SG} {s : SS} {ρ : Rho} {M : Mem} (I : Rho → Prop) (ds : List PyData) (hs : ∀ d ∈ ds, ∀ ρ, I ρ → ∃ ρ1 ρ2, g (.dat d) ρ M = some (ρ1, M) ∧ s ρ1 M = some (.nx ρ2 M) ∧ I ρ2) (h : I ρ) : ∃ ρ', loop g s ds ρ M = some (.nx ρ' M) ∧ I ρ' := by
  obtain ⟨ρ', M', e, rfl, h'⟩ := loop_inv (g := g) (s := s) (fun _ ρ M1 => M1 = M ∧ I ρ) ds 0 ρ M ⟨rfl, h⟩ (by
    rintro i d ρ M1 hd ⟨rfl, h⟩
    obtain ⟨ρ1, ρ2, e1, e2, h2⟩ := hs d (List.mem_of_getElem? hd) ρ h
    exact ⟨ρ1, M1, ρ2, M1, e1, e2, rfl, h2⟩)
  exact ⟨ρ', e, h'⟩
theorem l_sumT {M : Mem} (zs : List Int) : lift1 dSumA M (.dat (.tuple (zs.map PyData.int))) = some (ze zs.sum) := by
  simp only [lift1, dSumA, intsOf_map, Option.bind_some]
theorem kept_b {p x : Int} {d : Nat} {T : Nat → Nat → Int} (hp : 0 < p) : ∀ z ∈ keptL p d T x, 0 ≤ z ∧ z < p := by
  intro z hz
  obtain ⟨c, _, rfl⟩ := List.mem_map.mp hz
  exact hor_lt hp _
theorem kept_len {p x : Int} {d : Nat} {T : Nat → Nat → Int} : (keptL p d T x).length = d := by rw [List.length_map, List.length_range]
theorem tab_row (d r : Nat) (T : Nat → Nat → Int) : PyData.tuple ((List.range d).map fun c => .int (T r c)) = .tuple (((List.range d).map fun c => T r c).map PyData.int) := by rw [List.map_map]; rfl
theorem tab_sw {d : Nat} {T : Nat → Nat → Int} (hd : d ≤ 5) (hb : ∀ r c, 0 ≤ T r c ∧ T r c < 1000) : Sw (tD d T) 2 (3 + 5 * (3 + 5 * 1923 + 2)) := by
  refine (Sw.tup (k := 1) (w := 3 + 5 * 1923) fun e he => ?_).up (Nat.le_refl _) ?_
  · obtain ⟨r, _, rfl⟩ := List.mem_map.mp he
    rw [tab_row]
    refine Sw.row (fun z hz => ?_) (by rw [List.length_map, List.length_range]; exact hd)
    obtain ⟨c, _, rfl⟩ := List.mem_map.mp hz
    exact hb r c
  · rw [List.length_map, List.length_range]
    exact Nat.add_le_add_left (Nat.mul_le_mul_right _ hd) 3
theorem kept_0 {p : Int} {d : Nat} {T : Nat → Nat → Int} (hd : 1 ≤ d) (hb : ∀ r c, 0 ≤ T r c ∧ T r c < p) : keptL p d T 0 = (List.range d).map fun c => T 0 c := by
  obtain ⟨e, rfl⟩ : ∃ e, d = e + 1 := ⟨d - 1, by omega⟩
  unfold keptL
  refine List.map_congr_left fun c _ => ?_
  unfold colL
  rw [List.range_succ_eq_map, List.map_cons]
  show (hor p 0 _ * 0 + T 0 c) % p = T 0 c
  rw [Int.mul_zero, Int.zero_add, Int.emod_eq_of_lt (hb 0 c).1 (hb 0 c).2]
theorem loop_rg {s : SS} {M : Mem} {j : Nat} (I : Nat → Rho → Prop) (n : Nat) {ρ0 : Rho} (h0 : I 0 ρ0) (hs : ∀ (i : Nat) (ρ : Rho), i < n → I i ρ → ∃ ρ1, s (ρ.set j (some (ze (i : Int)))) M = some (.nx ρ1 M) ∧ I (i + 1) ρ1) :
    ∃ ρ', loop (gNm j) s (rangeD 0 (n : Int)) ρ0 M = some (.nx ρ' M) ∧ I n ρ' := by
  obtain ⟨ρ', M', e, rfl, h'⟩ := loop_inv (g := gNm j) (s := s) (fun i ρ M1 => M1 = M ∧ I i ρ) (rangeD 0 (n : Int)) 0 ρ0 M ⟨rfl, h0⟩ (by
    rintro i d ρ M1 hd ⟨rfl, hI⟩
    rw [Nat.zero_add] at hI ⊢
    rw [range_nat, List.getElem?_map] at hd
    obtain ⟨i', hi', rfl⟩ := Option.map_eq_some_iff.mp hd
    obtain ⟨q1, q2⟩ := List.getElem?_eq_some_iff.mp hi'
    rw [List.getElem_range] at q2
    rw [List.length_range] at q1
    subst q2
    obtain ⟨ρ1, k1, k2⟩ := hs i ρ q1 hI
    exact ⟨_, _, ρ1, _, rfl, k1, rfl, k2⟩)
  rw [range_nat, List.length_map, List.length_range, Nat.zero_add] at h'
  exact ⟨ρ', e, h'⟩
theorem zipD_maps {α : Type} (f g : α → PyData) (l : List α) : zipD (l.map f) (l.map g) = l.map fun r => PyData.tuple [f r, g r] := by
  unfold zipD
  rw [List.zip_map', List.map_map]; rfl
theorem rows_lay {d : Nat} {T : Nat → Nat → Int} : ∀ rs : List Nat, PyData.canLayAll0 (rs.map fun r => PyData.tuple ((List.range d).map fun c => .int (T r c))) = true ∧ PyData.depthAll (rs.map fun r => PyData.tuple ((List.range d).map fun c => .int (T r c))) ≤ 1
  | [] => ⟨rfl, by simp [PyData.depthAll]⟩
  | r :: rs => by
    obtain ⟨h1, h2⟩ := rows_lay (d := d) (T := T) rs
    obtain ⟨h3, h4⟩ := ints_lay ((List.range d).map fun c => T r c)
    rw [List.map_map] at h3 h4
    refine ⟨?_, ?_⟩
    · rw [List.map_cons]
      simp only [PyData.canLayAll0, PyData.canLay0, h1, Bool.and_true]
      exact h3
    · rw [List.map_cons]
      simp only [PyData.depthAll, PyData.depth]
      have : PyData.depthAll ((List.range d).map fun c => PyData.int (T r c)) ≤ 0 := h4
      omega
theorem tab_shaped (d : Nat) (T : Nat → Nat → Int) : SeqAt.shaped (tD d T) = true := by
  obtain ⟨h1, h2⟩ := rows_lay (d := d) (T := T) (List.range d)
  have h3 : (tD d T).depth ≤ 64 := by simp only [PyData.depth]; omega
  have h4 : (tD d T).canLay0 = true := by simp only [PyData.canLay0]; exact h1
  unfold SeqAt.shaped
  rw [h4, decide_eq_true h3]; rfl

theorem row_fn (zs : List Int) : zs.map PyData.int = (List.range zs.length).map fun i => PyData.int (zs.getD i 0) := by
  refine List.ext_getElem? fun i => ?_
  rw [List.getElem?_map, List.getElem?_map]
  by_cases h : i < zs.length
  · rw [List.getElem?_range h, List.getElem?_eq_getElem h]
    simp [List.getD_eq_getElem?_getD, List.getElem?_eq_getElem h]
  · rw [List.getElem?_eq_none (by omega), List.getElem?_eq_none (by rw [List.length_range]; omega)]; rfl

/-! ### tables compared -/
theorem eqvAll_map {α : Type} (f g : α → PyData) : ∀ l : List α, PyData.eqvAll (l.map f) (l.map g) = l.all fun a => PyData.eqv (f a) (g a)
  | [] => by simp [PyData.eqvAll]
  | a :: l => by simp only [List.map_cons, PyData.eqvAll, eqvAll_map f g l, List.all_cons]
theorem eqv_tab (d : Nat) (T U : Nat → Nat → Int) : PyData.eqv (tD d T) (tD d U) = (List.range d).all fun r => ((List.range d).map fun c => T r c) == ((List.range d).map fun c => U r c) := by
  show PyData.eqvAll _ _ = _
  rw [eqvAll_map]
  congr 1
  funext r
  rw [tab_row, tab_row]
  show PyData.eqvAll _ _ = _
  exact eqv_ints _ _
theorem l_eqTab {M : Mem} (d : Nat) (T U : Nat → Nat → Int) : lift2 dEq M (.dat (tD d T)) (.dat (tD d U)) = some (.dat (.bool ((List.range d).all fun r => ((List.range d).map fun c => T r c) == ((List.range d).map fun c => U r c)))) := by
  simp only [lift2, dEq, tab_shaped, Bool.and_self, if_true, Option.bind_some, eqv_tab]
theorem l_neTab {M : Mem} (d : Nat) (T U : Nat → Nat → Int) : lift2 dNe M (.dat (tD d T)) (.dat (tD d U)) = some (.dat (.bool (!((List.range d).all fun r => ((List.range d).map fun c => T r c) == ((List.range d).map fun c => U r c))))) := by
  simp only [lift2, dNe, tab_shaped, Bool.and_self, if_true, Option.bind_some, eqv_tab]
theorem tab_eq_iff {d : Nat} {T U : Nat → Nat → Int} : ((List.range d).all fun r => ((List.range d).map fun c => T r c) == ((List.range d).map fun c => U r c)) = true ↔ ∀ r c, r < d → c < d → T r c = U r c := by
  rw [List.all_eq_true]
  constructor
  · intro h r c hr hc
    have := h r (List.mem_range.mpr hr)
    rw [beq_iff_eq] at this
    have e := List.map_inj_left.mp this c (List.mem_range.mpr hc)
    exact e
  · intro h r hr
    rw [beq_iff_eq]
    exact List.map_congr_left fun c hc => h r c (List.mem_range.mp hr) (List.mem_range.mp hc)
theorem tab_ne {d : Nat} {T U : Nat → Nat → Int} {r c : Nat} (hr : r < d) (hc : c < d) (h : T r c ≠ U r c) : ((List.range d).all fun r => ((List.range d).map fun c => T r c) == ((List.range d).map fun c => U r c)) = false := by
  cases e : ((List.range d).all fun r => ((List.range d).map fun c => T r c) == ((List.range d).map fun c => U r c)) with
  | false => rfl
  | true => exact absurd (tab_eq_iff.mp e r c hr hc) h
theorem l_repT {M : Mem} {x : PyData} {k : Int} (h0 : 0 ≤ k) (h1 : k ≤ 1000) : lift2 dMul M (.dat (.tuple [x])) (ze k) = some (.dat (.tuple (List.replicate k.toNat x))) := by
  have e : (List.replicate k.toNat [x]).flatten = List.replicate k.toNat x := by
    induction k.toNat with
    | zero => rfl
    | succ n ih => rw [List.replicate_succ, List.flatten_cons, ih, List.replicate_succ]; rfl
  have c : ([x] ≠ [] ∧ 0 ≤ k ∧ k ≤ 1000 ∧ [x].length ≤ 1000) := ⟨by simp, h0, h1, by simp⟩
  show ((if [x] ≠ [] ∧ 0 ≤ k ∧ k ≤ 1000 ∧ [x].length ≤ 1000 then some (PyData.tuple (List.replicate k.toNat [x]).flatten) else none).bind fun r => some (SV.dat r)) = _
  rw [if_pos c, e]; rfl
theorem zero_tab (d : Nat) : PyData.tuple (List.replicate d (rD (List.replicate d 0))) = tD d (fun _ _ => 0) := by
  unfold tD rD
  rw [List.map_replicate]
  congr 1
  rw [List.map_const', List.length_range, List.map_const', List.length_range]
theorem l_max {M : Mem} {zs : List Int} (h : 0 < zs.length) : lift1 dMaxA M (.dat (.tuple (zs.map PyData.int))) = some (ze (maxI zs)) := by
  simp only [lift1, dMaxA, intsOf_map, Option.bind_some, h, if_true]
theorem flt0 (l : List PyData) : (l.filter fun _ => false).map (fun e => e) = [] := by simp

/-! ### alike_on: a row that is nought at the houses, times itself -/
theorem Vn.lead {p : Nat} (hp : PrP p) {van : List Int} (y : Int) (h : ∃ w, van = w ++ [1]) : ∃ w, plusL p (-y) (0 :: van) (van ++ [0]) = w ++ [1] := by
  obtain ⟨w, rfl⟩ := h
  have hp1 := hp.1
  refine ⟨plusL p (-y) (0 :: w) (w ++ [1]), ?_⟩
  unfold plusL
  have e : (0 :: (w ++ [1])).zip (w ++ [1] ++ [0]) = (0 :: w).zip (w ++ [1]) ++ [(1, 0)] := by
    rw [← List.cons_append, List.zip_append (by simp)]; rfl
  rw [e, List.map_append, List.map_singleton]
  congr 2
  show (1 + -y * 0) % (p : Int) = 1
  rw [Int.mul_zero, Int.add_zero]
  exact Int.emod_eq_of_lt (by omega) (by omega)
abbrev alT (p : Int) (V : List Int) (r c : Nat) : Int := V.getD r 0 * V.getD c 0 % p
theorem take_pad (V : List Int) (d : Nat) : (V ++ List.replicate d 0).take d = (List.range d).map fun i => V.getD i 0 := by
  refine List.ext_getElem? fun i => ?_
  rw [List.getElem?_take, List.getElem?_map]
  by_cases h : i < d
  · rw [if_pos h, List.getElem?_range h]
    simp only [Option.map_some, List.getD_eq_getElem?_getD]
    by_cases hv : i < V.length
    · rw [List.getElem?_append_left hv, List.getElem?_eq_getElem hv]; rfl
    · rw [List.getElem?_append_right (by omega), List.getElem?_replicate, if_pos (by omega), List.getElem?_eq_none (by omega)]; rfl
  · rw [if_neg h, List.getElem?_eq_none (by rw [List.length_range]; omega)]; rfl
theorem alike_ok {p : Nat} (hP : PrP p) {k d l : Int} {D : Nat} (hD : d = (D : Int)) (hd : D ≤ 100) {xs : List Int} {M : Mem} (xl : xs.length ≤ 900) (xb : ∀ z ∈ xs, 0 ≤ z ∧ z < (p : Int)) :
    ∃ V, Vn p xs V ∧ (∃ w, V = w ++ [1]) ∧ F_alike_on [.dat (shD p k d l), .dat (rD xs)] M = some (.dat (tD D (alT p V)), M) := by
  subst hD
  have hp1 := hP.1
  have hp2 := hP.2.1
  obtain ⟨ρ', M', e, rfl, V, o7, rfl, hV, hL⟩ := loop_inv (g := gNm 7) (s := Lb_alike_on_3_1) (fun n ρ M1 => M1 = M ∧ ∃ V o7, ρ = [some (.dat (shD p k D l)), some (.dat (rD xs)), some (ze p), some (ze k), some (ze (D : Int)), some (ze l), some (.dat (.list (V.map PyData.int))), o7, none, none, none] ∧ Vn p (xs.take n) V ∧ ∃ w, V = w ++ [1]) (xs.map PyData.int) 0 [some (.dat (shD p k D l)), some (.dat (rD xs)), some (ze p), some (ze k), some (ze (D : Int)), some (ze l), some (.dat (.list [.int 1])), none, none, none, none] M ⟨rfl, [1], none, rfl, Vn.nil hP, [], rfl⟩ (by
    rintro i e ρ M1 he ⟨rfl, V, o7, rfl, hV, hL⟩
    rw [List.getElem?_map] at he
    obtain ⟨x, hx, rfl⟩ := Option.map_eq_some_iff.mp he
    have hi := (List.getElem?_eq_some_iff.mp hx).1
    have bx := xb x (List.mem_of_getElem? hx)
    rw [Nat.zero_add] at hV ⊢
    have hvl := hV.lv
    rw [List.length_take] at hvl
    have st := hV.step hP x
    have ht : xs.take (i + 1) = xs.take i ++ [x] := by rw [List.take_succ, hx]; rfl
    rw [← ht] at st
    have m := nought_ok (p := p) (x := x) (van := V) (M := M1) (by omega) (by omega) (by omega)
    exact ⟨_, _, [some (.dat (shD p k D l)), some (.dat (rD xs)), some (ze p), some (ze k), some (ze (D : Int)), some (ze l), some (.dat (.list ((plusL p (-x) (0 :: V) (V ++ [0])).map PyData.int))), some (ze x), none, none, none], M1, rfl, sAsg_eq (eCall_eq (M1 := M1) (xs := [ze p, .dat (.list (V.map PyData.int)), ze x]) rfl m) rfl, rfl, _, _, rfl, st, Vn.lead hP x hL⟩)
  rw [List.length_map, Nat.zero_add, List.take_length] at hV
  refine ⟨V, hV, hL, ?_⟩
  have hvl := hV.lv
  have gb : ∀ i, 0 ≤ V.getD i 0 ∧ V.getD i 0 < (p : Int) := by
    intro i
    rw [List.getD_eq_getElem?_getD]
    cases e : V[i]? with
    | none => exact ⟨Int.le_refl 0, by show (0 : Int) < p; omega⟩
    | some z => exact hV.bv z (List.mem_of_getElem? e)
  have r0 := rep0 (ρ := [some (.dat (shD p k D l)), some (.dat (rD xs)), some (ze p), some (ze k), some (ze (D : Int)), some (ze l), some (.dat (.list (V.map PyData.int))), o7, none, none, none]) (M := M') (d := D) (j := 4) rfl (by omega)
  have hlen : (M' ++ [some [ze 0]] ++ [none]).take M'.length = M' := by rw [List.append_assoc]; exact List.take_left' rfl
  generalize M' ++ [some [ze 0]] ++ [none] = M2 at *
  have ad : lift2 dAdd M2 (.dat (.list (V.map PyData.int))) (.dat (.list ((List.replicate D (0 : Int)).map PyData.int))) = some (.dat (.list ((V ++ List.replicate D 0).map PyData.int))) := by
    rw [List.map_append]
    exact l_addL (Nat.ble_eq_true_of_le (by rw [List.length_map, List.length_map, List.length_replicate]; omega))
  have sl : fSl M2 (.dat (.list ((V ++ List.replicate D 0).map PyData.int))) none (some (D : Int)) = some (.dat (.list ((List.range D).map fun i => PyData.int (V.getD i 0)))) := by
    show some (SV.dat (.list (cutD ((V ++ List.replicate D 0).map PyData.int) none (some (D : Int))))) = _
    rw [cut_take, ← List.map_take, take_pad, List.map_map]; rfl
  have inner : ∀ a : Int, 0 ≤ a ∧ a < (p : Int) → eCB (one fTuple) (aCons (eLc (iDat (eVar 8)) (gNm 10) bYes (eOp (lift2 dMod) (eOp (lift2 dMul) (eVar 9) (eVar 10)) (eVar 2)) [10]) aNil) [some (.dat (shD p k D l)), some (.dat (rD xs)), some (ze p), some (ze k), some (ze (D : Int)), some (ze l), some (.dat (.list (V.map PyData.int))), o7, some (.dat (.list ((List.range D).map fun i => PyData.int (V.getD i 0)))), some (ze a), none] M2 = some (.dat (.tuple ((List.range D).map fun c => PyData.int (a * V.getD c 0 % p))), M2) := by
    intro a ha
    have lc := lcL_map (g := gNm 10) (ρ := [some (.dat (shD p k D l)), some (.dat (rD xs)), some (ze p), some (ze k), some (ze (D : Int)), some (ze l), some (.dat (.list (V.map PyData.int))), o7, some (.dat (.list ((List.range D).map fun i => PyData.int (V.getD i 0)))), some (ze a), none]) (M := M2) (el := eOp (lift2 dMod) (eOp (lift2 dMul) (eVar 9) (eVar 10)) (eVar 2)) (f := fun e => match e with | .int z => .int (a * z % p) | _ => .none) ((List.range D).map fun i => PyData.int (V.getD i 0)) (by
      intro e he
      obtain ⟨i, _, rfl⟩ := List.mem_map.mp he
      exact ⟨_, rfl, eOp_eq (M1 := M2) (M2 := M2) (eOp_eq (M1 := M2) (M2 := M2) (x := ze a) (y := ze (V.getD i 0)) rfl rfl (l_mul (.inl (by omega)))) (y := ze p) rfl (l_mod (by omega))⟩)
    rw [List.map_map] at lc
    exact eCB_eq (M1 := M2) (aCons_eq (M1 := M2) (eLc_eq (M1 := M2) (iDat_l rfl) (by rw [List.length_map, List.length_range]; omega) lc) rfl) rfl
  have outer := lcL_map (g := gNm 9) (ρ := [some (.dat (shD p k D l)), some (.dat (rD xs)), some (ze p), some (ze k), some (ze (D : Int)), some (ze l), some (.dat (.list (V.map PyData.int))), o7, some (.dat (.list ((List.range D).map fun i => PyData.int (V.getD i 0)))), none, none]) (M := M2) (el := eCB (one fTuple) (aCons (eLc (iDat (eVar 8)) (gNm 10) bYes (eOp (lift2 dMod) (eOp (lift2 dMul) (eVar 9) (eVar 10)) (eVar 2)) [10]) aNil)) (f := fun e => match e with | .int z => .tuple ((List.range D).map fun c => PyData.int (z * V.getD c 0 % p)) | _ => .none) ((List.range D).map fun i => PyData.int (V.getD i 0)) (by
    intro e he
    obtain ⟨i, _, rfl⟩ := List.mem_map.mp he
    exact ⟨_, rfl, inner _ (gb i)⟩)
  rw [List.map_map] at outer
  have res := mkF_rt (n := 11) (s := B_alike_on) (args := [.dat (shD p k D l), .dat (rD xs)]) (M := M') (M1 := M2) (d := tD D (alT p V)) (by
    refine sSeq_nx (M1 := M') (ρ1 := [some (.dat (shD p k D l)), some (.dat (rD xs)), some (ze p), some (ze k), some (ze (D : Int)), some (ze l), none, none, none, none, none]) rfl ?_
    refine sSeq_nx (M1 := M') (ρ1 := [some (.dat (shD p k D l)), some (.dat (rD xs)), some (ze p), some (ze k), some (ze (D : Int)), some (ze l), some (.dat (.list [.int 1])), none, none, none, none]) rfl ?_
    refine sSeq_nx (M1 := M') (sFor_eq (M1 := M') (ds := xs.map PyData.int) rfl e) ?_
    refine sSeq_nx (M1 := M2) (ρ1 := [some (.dat (shD p k D l)), some (.dat (rD xs)), some (ze p), some (ze k), some (ze (D : Int)), some (ze l), some (.dat (.list (V.map PyData.int))), o7, some (.dat (.list ((List.range D).map fun i => PyData.int (V.getD i 0)))), none, none]) (sAsg_eq (eSl_eq (M1 := M2) (eOp_eq (M1 := M') (M2 := M2) (x := .dat (.list (V.map PyData.int))) rfl r0 ad) rfl rfl sl) rfl) ?_
    refine sRet_eq (eCB_eq (M1 := M2) (aCons_eq (M1 := M2) (eLc_eq (M1 := M2) (iDat_l rfl) (by rw [List.length_map, List.length_range]; omega) outer) rfl) rfl))
  rw [hlen] at res
  exact res
theorem ev_pad (x : Int) (V : List Int) {d : Nat} (h : V.length ≤ d) : ev x ((List.range d).map fun i => V.getD i 0) = ev x V := by
  rw [← take_pad]
  have e : (V ++ List.replicate d 0).take d = V ++ List.replicate (d - V.length) 0 := by
    rw [List.take_append, List.take_of_length_le h, List.take_replicate, Nat.min_eq_left (by omega)]
  rw [e, ev_zeros]
theorem al_kept {p : Int} {x : Int} {V : List Int} {d c : Nat} (h : V.length ≤ d) : hor p x (colL d (alT p V) c) = (ev x V * V.getD c 0) % p := by
  rw [hor_ev, ev_sm]
  apply emod_congr
  have e : ev x V * V.getD c 0 = sm d (fun r => V.getD r 0 * x ^ r * V.getD c 0) := by
    rw [sm_mul, ← ev_sm, ev_pad x V h]
  rw [e]
  refine sm_dvd fun r _ => ?_
  obtain ⟨k, hk⟩ := dvd_emod p (V.getD r 0 * V.getD c 0)
  refine ⟨k * x ^ r, ?_⟩
  have e1 : alT p V r c = V.getD r 0 * V.getD c 0 + p * k := by show V.getD r 0 * V.getD c 0 % p = _; omega
  rw [e1, Int.add_mul, Int.mul_assoc p, Int.mul_right_comm]; omega
theorem al_sym (p : Int) (V : List Int) (r c : Nat) : alT p V r c = alT p V c r := by unfold alT; rw [Int.mul_comm]
theorem al_b {p : Int} (hp : 0 < p) (V : List Int) (r c : Nat) : 0 ≤ alT p V r c ∧ alT p V r c < p := ⟨Int.emod_nonneg _ (by omega), Int.emod_lt_of_pos _ hp⟩
theorem al_0 {p : Int} {V : List Int} {r c : Nat} (h : V.length ≤ min r c) : alT p V r c = 0 := by
  unfold alT
  have : V.getD (min r c) 0 = 0 := by rw [List.getD_eq_getElem?_getD, List.getElem?_eq_none h]; rfl
  rcases Nat.le_total r c with q | q
  · rw [Nat.min_eq_left q] at this; rw [this, Int.zero_mul]; rfl
  · rw [Nat.min_eq_right q] at this; rw [this, Int.mul_zero]; rfl
theorem al_1 {p : Int} (hp : 1 < p) {w : List Int} : alT p (w ++ [1]) w.length w.length = 1 := by
  unfold alT
  have : (w ++ [1]).getD w.length 0 = 1 := by rw [List.getD_eq_getElem?_getD, List.getElem?_append_right (Nat.le_refl _), Nat.sub_self]; rfl
  rw [this, Int.mul_one]
  exact Int.emod_eq_of_lt (by omega) hp
/-- the houses at which the row is nought keep noughts -/
theorem al_nought {p : Nat} {xs V : List Int} {d : Nat} (h : Vn p xs V) (hd : V.length ≤ d) {x : Int} (hx : x ∈ xs) : keptL p d (alT p V) x = List.replicate d 0 := by
  have hz := h.zero hx
  rw [hor_ev] at hz
  have hv := Int.dvd_of_emod_eq_zero hz
  unfold keptL
  rw [show (fun c => hor (p : Int) x (colL d (alT p V) c)) = fun _ : Nat => (0 : Int) from funext fun c => by
    rw [al_kept hd]
    exact Int.emod_eq_zero_of_dvd (Int.dvd_trans hv (Int.dvd_mul_right _ _)), List.map_const', List.length_range]
/-- all others keep something -/
theorem al_some {p : Nat} (hP : PrP p) {xs w : List Int} {d : Nat} (h : Vn p xs (w ++ [1])) (hd : (w ++ [1]).length ≤ d) {x : Int} (hx : ∀ y ∈ xs, ¬ (p : Int) ∣ x - y) : ∃ z ∈ keptL p d (alT p (w ++ [1])) x, 0 < z := by
  have nz := h.not hP hx
  rw [List.length_append, List.length_singleton] at hd
  refine ⟨hor p x (colL d (alT p (w ++ [1])) w.length), List.mem_map.mpr ⟨w.length, List.mem_range.mpr (by omega), rfl⟩, ?_⟩
  rw [al_kept (by rw [List.length_append, List.length_singleton]; omega)]
  have : (w ++ [1]).getD w.length 0 = 1 := by rw [List.getD_eq_getElem?_getD, List.getElem?_append_right (Nat.le_refl _), Nat.sub_self]; rfl
  rw [this, Int.mul_one, ← hor_ev]
  have := hor_lt (p := p) (x := x) (by have := hP.1; omega) (w ++ [1])
  omega

/-! ### is_table, whatever it is -/
theorem lcL2_flat {g g1 : SG} {it1 : SI} {el : SE} {vs1 : List Nat} {ρ : Rho} {M : Mem} {f : PyData → List PyData} : ∀ ds : List PyData, (∀ d ∈ ds, ∃ ρ1 ds1, g (.dat d) ρ M = some (ρ1, M) ∧ it1 ρ1 M = some (ds1, M) ∧ ds1.length ≤ 1000 ∧ lcL g1 bYes el (wipeR ρ1 vs1) ds1 M = some (f d, M)) → lcL2 g bYes it1 g1 bYes el vs1 ρ ds M = some (ds.flatMap f, M)
  | [], _ => rfl
  | d :: ds, h => by
    obtain ⟨ρ1, ds1, e1, e2, e3, e4⟩ := h d List.mem_cons_self
    have ih := lcL2_flat ds (fun x hx => h x (List.mem_cons_of_mem _ hx))
    simp only [lcL2, e1, Option.bind_some, bYes, if_true, e2, e3, e4, ih, List.flatMap_cons]
theorem eLc2_eq {it it1 : SI} {g g1 : SG} {tt tt1 : SB} {el : SE} {vs vs1 : List Nat} {ds out : List PyData} {ρ : Rho} {M M1 M2 : Mem} (h1 : it ρ M = some (ds, M1)) (h2 : ds.length ≤ 1000) (h3 : lcL2 g tt it1 g1 tt1 el vs1 (wipeR ρ vs) ds M1 = some (out, M2)) : eLc2 it g tt it1 g1 tt1 el vs vs1 ρ M = some (.dat (.list out), M2) := by
  simp only [eLc2, h1, Option.bind_some, h2, if_true, h3]
theorem range_from (k d : Nat) : rangeD (k : Int) (d : Int) = (List.range (d - k)).map fun i : Nat => PyData.int ((k + i : Nat) : Int) := by
  unfold rangeD
  rw [show ((d : Int) - (k : Int)).toNat = d - k by omega]
  exact List.map_congr_left fun i _ => by rw [Int.natCast_add]
theorem flags_ints : ∀ zs : List Int, flagsOf (zs.map PyData.int) = some (zs.map fun z => z != 0)
  | [] => rfl
  | z :: zs => by simp only [List.map_cons, flagsOf, flagD, Option.bind_some, flags_ints zs]
theorem l_anyL {M : Mem} (zs : List Int) : lift1 dAny M (.dat (.list (zs.map PyData.int))) = some (.dat (.bool (zs.any fun z => z != 0))) := by
  simp only [lift1, dAny, flags_ints, Option.bind_some, List.any_map]; rfl
theorem l_anyT {M : Mem} (zs : List Int) : lift1 dAny M (.dat (.tuple (zs.map PyData.int))) = some (.dat (.bool (zs.any fun z => z != 0))) := by
  simp only [lift1, dAny, flags_ints, Option.bind_some, List.any_map]; rfl
theorem bools_map : ∀ bs : List Bool, boolsOf (bs.map PyData.bool) = some bs
  | [] => rfl
  | b :: bs => by simp only [List.map_cons, boolsOf, bools_map bs, Option.bind_some]
theorem l_allL {M : Mem} (bs : List Bool) : lift1 dAll M (.dat (.list (bs.map PyData.bool))) = some (.dat (.bool (bs.all id))) := by
  simp only [lift1, dAll, bools_map, Option.bind_some]
def rowsB (p n many : Int) : PyData → Bool
  | .tuple ds => ((ds.length : Int) == many) && ds.all (rowB p n)
  | _ => false
theorem rowsB_nt {p n many : Int} {d : PyData} (h : kTup d = false) : rowsB p n many d = false := by cases d <;> first | rfl | cases h
theorem are_rows_ok {p n many : Int} (hn : n ≤ 1000) (hm : many ≤ 1000) (x : PyData) (M : Mem) : F_are_rows [ze p, ze n, ze many, .dat x] M = some (.dat (.bool (rowsB p n many x)), M) := by
  refine mkF_rtL (M1 := M) rfl (sRet_eq ?_)
  have i0 : eUn (fIsi "tuple") (eVar 3) [some (ze p), some (ze n), some (ze many), some (.dat x), none] M = some (.dat (.bool (kTup x)), M) := eUn_eq (M1 := M) rfl (isi_tup x)
  by_cases ht : kTup x = true
  · rw [ht] at i0
    refine eAnd_e (M1 := M) i0 ?_
    rw [if_pos rfl]
    cases x <;> first | cases ht | skip
    rename_i ds
    have i1 : eOp (lift2 dEq) (eCB (one fLen) (aCons (eVar 3) aNil)) (eVar 2) [some (ze p), some (ze n), some (ze many), some (.dat (.tuple ds)), none] M = some (.dat (.bool ((ds.length : Int) == many)), M) := eOp_eq (M1 := M) (M2 := M) (x := ze (ds.length : Int)) (y := ze many) rfl rfl l_eq
    by_cases hl : (ds.length : Int) = many
    · have hb : ((ds.length : Int) == many) = true := by rw [hl]; simp
      rw [hb] at i1
      refine eAnd_e (M1 := M) i1 ?_
      rw [if_pos rfl]
      have lc := lcL_map (g := gNm 4) (ρ := [some (ze p), some (ze n), some (ze many), some (.dat (.tuple ds)), none]) (M := M) (el := eCall F_is_row (aCons (eVar 0) (aCons (eVar 1) (aCons (eVar 4) aNil)))) (f := fun e => .bool (rowB p n e)) ds (by
        intro e he
        exact ⟨[some (ze p), some (ze n), some (ze many), some (.dat (.tuple ds)), some (.dat e)], rfl, eCall_eq (M1 := M) (xs := [ze p, ze n, .dat e]) rfl (is_row_ok hn e M)⟩)
      have al := all_map (M := M) (rowB p n) ds
      have er : rowsB p n many (.tuple ds) = ds.all (rowB p n) := by
        show (((ds.length : Int) == many) && ds.all (rowB p n)) = _
        rw [hb, Bool.true_and]
      rw [er]
      exact eCB_eq (M1 := M) (aCons_eq (M1 := M) (eLc_eq (M1 := M) (iDat_t rfl) (by omega) lc) rfl) al
    · have hb : ((ds.length : Int) == many) = false := by rw [beq_eq_false_iff_ne]; exact hl
      rw [hb] at i1
      refine eAnd_e (M1 := M) i1 ?_
      rw [if_neg (by decide)]
      have er : rowsB p n many (.tuple ds) = false := by
        show (((ds.length : Int) == many) && ds.all (rowB p n)) = _
        rw [hb, Bool.false_and]
      rw [er]
  · have ht' : kTup x = false := by simpa using ht
    rw [ht'] at i0
    refine eAnd_e (M1 := M) i0 ?_
    rw [if_neg (by decide), rowsB_nt ht']
/-- what stands at a place -/
def entry (x : PyData) (r c : Nat) : Int := match x with
  | .tuple ds => match ds[r]? with
    | some (.tuple es) => match es[c]? with
      | some (.int z) => z
      | _ => 0
    | _ => 0
  | _ => 0
theorem entry_at {ds : List PyData} {zs : List Int} {r c : Nat} (h : ds[r]? = some (.tuple (zs.map PyData.int))) : entry (.tuple ds) r c = zs.getD c 0 := by
  simp only [entry, h, List.getElem?_map, List.getD_eq_getElem?_getD]
  cases zs[c]? <;> rfl
theorem entry_no {ds : List PyData} {r c : Nat} (h : ds[r]? = none) : entry (.tuple ds) r c = 0 := by simp only [entry, h]
theorem rowB_at {p : Int} {n : Nat} {d : PyData} (h : rowB p n d = true) : ∃ zs : List Int, d = .tuple (zs.map PyData.int) ∧ zs.length = n ∧ ∀ z ∈ zs, 0 ≤ z ∧ z < p := by
  cases d <;> first | cases h | skip
  rename_i ds
  unfold rowB at h
  rw [Bool.and_eq_true, beq_iff_eq] at h
  obtain ⟨h1, h2⟩ := h
  have key : ∀ ds : List PyData, ds.all (restB p) = true → ∃ zs : List Int, ds = zs.map PyData.int ∧ ∀ z ∈ zs, 0 ≤ z ∧ z < p := by
    intro ds
    induction ds with
    | nil => intro _; exact ⟨[], rfl, fun _ z => nomatch z⟩
    | cons e ds ih =>
      intro hh
      rw [List.all_cons, Bool.and_eq_true] at hh
      obtain ⟨zs, rfl, hz⟩ := ih hh.2
      have he := hh.1
      cases e <;> first | (simp [restB] at he; done) | skip
      rename_i z
      simp only [restB, Bool.and_eq_true, decide_eq_true_eq] at he
      exact ⟨z :: zs, rfl, fun y hy => by
        rcases List.mem_cons.mp hy with q | q
        · rw [q]; exact he
        · exact hz y q⟩
  obtain ⟨zs, rfl, hz⟩ := key ds h2
  exact ⟨zs, rfl, by rw [List.length_map] at h1; omega, hz⟩
theorem rows_tab {p : Int} (hp : 0 < p) {d : Nat} {x : PyData} (h : rowsB p d d x = true) : x = tD d (entry x) ∧ ∀ r c, 0 ≤ entry x r c ∧ entry x r c < p := by
  cases x <;> first | cases h | skip
  rename_i ds
  unfold rowsB at h
  rw [Bool.and_eq_true, beq_iff_eq, List.all_eq_true] at h
  obtain ⟨h1, h2⟩ := h
  have hb : ∀ r c, 0 ≤ entry (.tuple ds) r c ∧ entry (.tuple ds) r c < p := by
    intro r c
    cases e : ds[r]? with
    | none => rw [entry_no e]; exact ⟨Int.le_refl 0, hp⟩
    | some y =>
      obtain ⟨zs, rfl, zl, zb⟩ := rowB_at (h2 y (List.mem_of_getElem? e))
      rw [entry_at e, List.getD_eq_getElem?_getD]
      cases e2 : zs[c]? with
      | none => exact ⟨Int.le_refl 0, hp⟩
      | some z => exact zb z (List.mem_of_getElem? e2)
  refine ⟨?_, hb⟩
  unfold tD
  congr 1
  refine List.ext_getElem? fun r => ?_
  rw [List.getElem?_map]
  by_cases hr : r < d
  · have hr' : r < ds.length := by omega
    rw [List.getElem?_range hr, List.getElem?_eq_getElem hr']
    obtain ⟨zs, hz, zl, zb⟩ := rowB_at (h2 ds[r] (List.getElem_mem hr'))
    simp only [Option.map_some]
    rw [hz]
    congr 2
    refine List.ext_getElem? fun c => ?_
    rw [List.getElem?_map, List.getElem?_map]
    by_cases hc : c < d
    · have hc' : c < zs.length := by omega
      rw [List.getElem?_range hc, List.getElem?_eq_getElem hc']
      have en := entry_at (c := c) (show ds[r]? = some (.tuple (zs.map PyData.int)) by rw [List.getElem?_eq_getElem hr', hz])
      simp only [Option.map_some]
      rw [en, List.getD_eq_getElem?_getD, List.getElem?_eq_getElem hc']
      rfl
    · rw [List.getElem?_eq_none (by omega), List.getElem?_eq_none (by rw [List.length_range]; omega)]; rfl
  · rw [List.getElem?_eq_none (by omega), List.getElem?_eq_none (by rw [List.length_range]; omega)]; rfl
theorem tab_rowsB {p : Int} {d : Nat} {T : Nat → Nat → Int} (h : ∀ r c, 0 ≤ T r c ∧ T r c < p) : rowsB p d d (tD d T) = true := by
  show (((((List.range d).map fun r => PyData.tuple ((List.range d).map fun c => .int (T r c))).length : Nat) : Int) == (d : Int) && ((List.range d).map fun r => PyData.tuple ((List.range d).map fun c => .int (T r c))).all (rowB p d)) = true
  rw [List.length_map, List.length_range, beq_self_eq_true, Bool.true_and, List.all_eq_true]
  intro x hx
  obtain ⟨r, _, rfl⟩ := List.mem_map.mp hx
  rw [tab_row]
  refine rowB_row (by rw [List.length_map, List.length_range]) fun z hz => ?_
  obtain ⟨c, _, rfl⟩ := List.mem_map.mp hz
  exact h r c
def lowB (k d : Nat) (T : Nat → Nat → Int) : Bool := (List.range (d - k)).any fun r => (List.range (d - k)).any fun c => T (k + r) (k + c) != 0
def symB (d : Nat) (T : Nat → Nat → Int) : Bool := (List.range d).all fun r => (List.range r).all fun c => T r c == T c r
def tabOkB (k d : Nat) (T : Nat → Nat → Int) : Bool := !lowB k d T && symB d T
theorem tabOk_iff {k d : Nat} {T : Nat → Nat → Int} : tabOkB k d T = true ↔ (∀ r c, r < d → c < d → T r c = T c r) ∧ ∀ r c, k ≤ r → r < d → k ≤ c → c < d → T r c = 0 := by
  unfold tabOkB lowB symB
  rw [Bool.and_eq_true, Bool.not_eq_true', List.any_eq_false, List.all_eq_true]
  constructor
  · rintro ⟨h1, h2⟩
    refine ⟨fun r c hr hc => ?_, fun r c k1 k2 k3 k4 => ?_⟩
    · rcases Nat.lt_trichotomy r c with q | q | q
      · have := h2 c (List.mem_range.mpr hc)
        rw [List.all_eq_true] at this
        have := this r (List.mem_range.mpr q)
        rw [beq_iff_eq] at this
        exact this.symm
      · rw [q]
      · have := h2 r (List.mem_range.mpr hr)
        rw [List.all_eq_true] at this
        have := this c (List.mem_range.mpr q)
        rw [beq_iff_eq] at this
        exact this
    · have := h1 (r - k) (List.mem_range.mpr (by omega))
      rw [Bool.not_eq_true, List.any_eq_false] at this
      have := this (c - k) (List.mem_range.mpr (by omega))
      rw [show k + (r - k) = r by omega, show k + (c - k) = c by omega] at this
      simpa using this
  · rintro ⟨h1, h2⟩
    refine ⟨fun r hr => ?_, fun r hr => ?_⟩
    · rw [Bool.not_eq_true, List.any_eq_false]
      intro c hc
      rw [List.mem_range] at hr hc
      have := h2 (k + r) (k + c) (by omega) (by omega) (by omega) (by omega)
      simp [this]
    · rw [List.all_eq_true]
      intro c hc
      rw [List.mem_range] at hr hc
      rw [beq_iff_eq]
      exact h1 r c hr (by omega)
theorem is_table_tab {p l : Int} {k d : Nat} (hk : k ≤ d) (hd : d ≤ 30) {T : Nat → Nat → Int} (Tb : ∀ r c, 0 ≤ T r c ∧ T r c < p) (M : Mem) : F_is_table [.dat (shD p k d l), .dat (tD d T)] M = some (.dat (.bool (tabOkB k d T)), M) := by
  have ar := are_rows_ok (p := p) (n := (d : Int)) (many := (d : Int)) (by omega) (by omega) (tD d T) M
  rw [tab_rowsB Tb] at ar
  have ent : ∀ (r c : Nat) (ρ : Rho), r < d → c < d → ρ[1]? = some (some (.dat (tD d T))) → ρ[6]? = some (some (ze (r : Int))) → ρ[7]? = some (some (ze (c : Int))) → eOp fIx (eOp fIx (eVar 1) (eVar 6)) (eVar 7) ρ M = some (ze (T r c), M) := fun r c ρ hr hc h1 h6 h7 => eOp_eq (M1 := M) (M2 := M) (y := ze (c : Int)) (eOp_eq (M1 := M) (M2 := M) (x := .dat (tD d T)) (y := ze (r : Int)) (eVar_eq h1) (eVar_eq h6) (tup_range _ hr)) (eVar_eq h7) (tup_range _ hc)
  have ent2 : ∀ (r c : Nat) (ρ : Rho), r < d → c < d → ρ[1]? = some (some (.dat (tD d T))) → ρ[6]? = some (some (ze (r : Int))) → ρ[7]? = some (some (ze (c : Int))) → eOp fIx (eOp fIx (eVar 1) (eVar 7)) (eVar 6) ρ M = some (ze (T c r), M) := fun r c ρ hr hc h1 h6 h7 => eOp_eq (M1 := M) (M2 := M) (y := ze (r : Int)) (eOp_eq (M1 := M) (M2 := M) (x := .dat (tD d T)) (y := ze (c : Int)) (eVar_eq h1) (eVar_eq h7) (tup_range _ hc)) (eVar_eq h6) (tup_range _ hr)
  have low : eLc2 (iR2 (aCons (eVar 3) (aCons (eVar 4) aNil))) (gNm 6) bYes (iR2 (aCons (eVar 3) (aCons (eVar 4) aNil))) (gNm 7) bYes (eOp fIx (eOp fIx (eVar 1) (eVar 6)) (eVar 7)) [6, 7] [7] [some (.dat (shD p k d l)), some (.dat (tD d T)), some (ze p), some (ze (k : Int)), some (ze (d : Int)), some (ze l), none, none] M = some (.dat (.list (((List.range (d - k)).flatMap fun r => (List.range (d - k)).map fun c => T (k + r) (k + c)).map PyData.int)), M) := by
    have h := lcL2_flat (g := gNm 6) (g1 := gNm 7) (it1 := iR2 (aCons (eVar 3) (aCons (eVar 4) aNil))) (el := eOp fIx (eOp fIx (eVar 1) (eVar 6)) (eVar 7)) (vs1 := [7]) (ρ := [some (.dat (shD p k d l)), some (.dat (tD d T)), some (ze p), some (ze (k : Int)), some (ze (d : Int)), some (ze l), none, none]) (M := M) (f := fun e => match e with | .int z => ((List.range (d - k)).map fun c => PyData.int (T z.toNat (k + c))) | _ => []) (rangeD (k : Int) (d : Int)) (by
      intro e he
      rw [range_from] at he
      obtain ⟨r, hr, rfl⟩ := List.mem_map.mp he
      rw [List.mem_range] at hr
      refine ⟨[some (.dat (shD p k d l)), some (.dat (tD d T)), some (ze p), some (ze (k : Int)), some (ze (d : Int)), some (ze l), some (ze ((k + r : Nat) : Int)), none], rangeD (k : Int) (d : Int), rfl, iR2_eq (M1 := M) (i := (k : Int)) (j := (d : Int)) rfl (by omega) (by omega) (by omega) (by omega), by rw [rangeD_len]; omega, ?_⟩
      have lc := lcL_map (g := gNm 7) (ρ := [some (.dat (shD p k d l)), some (.dat (tD d T)), some (ze p), some (ze (k : Int)), some (ze (d : Int)), some (ze l), some (ze ((k + r : Nat) : Int)), none]) (M := M) (el := eOp fIx (eOp fIx (eVar 1) (eVar 6)) (eVar 7)) (f := fun e => match e with | .int z => PyData.int (T (k + r) z.toNat) | _ => .none) (rangeD (k : Int) (d : Int)) (by
        intro e he
        rw [range_from] at he
        obtain ⟨c, hc, rfl⟩ := List.mem_map.mp he
        rw [List.mem_range] at hc
        exact ⟨_, rfl, ent (k + r) (k + c) _ (by omega) (by omega) rfl rfl rfl⟩)
      rw [range_from, List.map_map] at lc
      rw [range_from]
      exact lc)
    have := eLc2_eq (vs := [6, 7]) (ρ := [some (.dat (shD p k d l)), some (.dat (tD d T)), some (ze p), some (ze (k : Int)), some (ze (d : Int)), some (ze l), none, none]) (M := M) (M1 := M) (it := iR2 (aCons (eVar 3) (aCons (eVar 4) aNil))) (iR2_eq (M1 := M) (i := (k : Int)) (j := (d : Int)) rfl (by omega) (by omega) (by omega) (by omega)) (by rw [rangeD_len]; omega) h
    have fe : (fun r : Nat => (fun e : PyData => match e with | .int z => ((List.range (d - k)).map fun c => PyData.int (T z.toNat (k + c))) | _ => []) (PyData.int ((k + r : Nat) : Int))) = fun r => ((List.range (d - k)).map fun c => T (k + r) (k + c)).map PyData.int := funext fun r => by rw [List.map_map]; rfl
    rw [this, range_from, List.flatMap_map, List.map_flatMap]
    exact congrArg (fun f => some (SV.dat (.list ((List.range (d - k)).flatMap f)), M)) fe
  have sy : eLc2 (iR1 (aCons (eVar 4) aNil)) (gNm 6) bYes (iR1 (aCons (eVar 6) aNil)) (gNm 7) bYes (eOp (lift2 dEq) (eOp fIx (eOp fIx (eVar 1) (eVar 6)) (eVar 7)) (eOp fIx (eOp fIx (eVar 1) (eVar 7)) (eVar 6))) [6, 7] [7] [some (.dat (shD p k d l)), some (.dat (tD d T)), some (ze p), some (ze (k : Int)), some (ze (d : Int)), some (ze l), none, none] M = some (.dat (.list (((List.range d).flatMap fun r => (List.range r).map fun c => T r c == T c r).map PyData.bool)), M) := by
    have h := lcL2_flat (g := gNm 6) (g1 := gNm 7) (it1 := iR1 (aCons (eVar 6) aNil)) (el := eOp (lift2 dEq) (eOp fIx (eOp fIx (eVar 1) (eVar 6)) (eVar 7)) (eOp fIx (eOp fIx (eVar 1) (eVar 7)) (eVar 6))) (vs1 := [7]) (ρ := [some (.dat (shD p k d l)), some (.dat (tD d T)), some (ze p), some (ze (k : Int)), some (ze (d : Int)), some (ze l), none, none]) (M := M) (f := fun e => match e with | .int z => ((List.range z.toNat).map fun c => PyData.bool (T z.toNat c == T c z.toNat)) | _ => []) (rangeD 0 (d : Int)) (by
      intro e he
      rw [range_nat] at he
      obtain ⟨r, hr, rfl⟩ := List.mem_map.mp he
      rw [List.mem_range] at hr
      refine ⟨[some (.dat (shD p k d l)), some (.dat (tD d T)), some (ze p), some (ze (k : Int)), some (ze (d : Int)), some (ze l), some (ze (r : Int)), none], rangeD 0 (r : Int), rfl, iR1_eq (M1 := M) (j := (r : Int)) rfl (by omega) (by omega), by rw [rangeD_len]; omega, ?_⟩
      have lc := lcL_map (g := gNm 7) (ρ := [some (.dat (shD p k d l)), some (.dat (tD d T)), some (ze p), some (ze (k : Int)), some (ze (d : Int)), some (ze l), some (ze (r : Int)), none]) (M := M) (el := eOp (lift2 dEq) (eOp fIx (eOp fIx (eVar 1) (eVar 6)) (eVar 7)) (eOp fIx (eOp fIx (eVar 1) (eVar 7)) (eVar 6))) (f := fun e => match e with | .int z => PyData.bool (T r z.toNat == T z.toNat r) | _ => .none) (rangeD 0 (r : Int)) (by
        intro e he
        rw [range_nat] at he
        obtain ⟨c, hc, rfl⟩ := List.mem_map.mp he
        rw [List.mem_range] at hc
        exact ⟨_, rfl, eOp_eq (M1 := M) (M2 := M) (ent r c _ hr (by omega) rfl rfl rfl) (ent2 r c _ hr (by omega) rfl rfl rfl) l_eq⟩)
      rw [range_nat, List.map_map] at lc
      rw [range_nat]
      exact lc)
    have := eLc2_eq (vs := [6, 7]) (ρ := [some (.dat (shD p k d l)), some (.dat (tD d T)), some (ze p), some (ze (k : Int)), some (ze (d : Int)), some (ze l), none, none]) (M := M) (M1 := M) (it := iR1 (aCons (eVar 4) aNil)) (iR1_eq (M1 := M) (j := (d : Int)) rfl (by omega) (by omega)) (by rw [rangeD_len]; omega) h
    have fe : (fun r : Nat => (fun e : PyData => match e with | .int z => ((List.range z.toNat).map fun c => PyData.bool (T z.toNat c == T c z.toNat)) | _ => []) (PyData.int (r : Int))) = fun r => ((List.range r).map fun c => T r c == T c r).map PyData.bool := funext fun r => by rw [List.map_map]; rfl
    rw [this, range_nat, List.flatMap_map, List.map_flatMap]
    exact congrArg (fun f => some (SV.dat (.list ((List.range d).flatMap f)), M)) fe
  have an := l_anyL (M := M) ((List.range (d - k)).flatMap fun r => (List.range (d - k)).map fun c => T (k + r) (k + c))
  have e1 : ((List.range (d - k)).flatMap fun r => (List.range (d - k)).map fun c => T (k + r) (k + c)).any (fun z => z != 0) = lowB k d T := by
    unfold lowB
    rw [List.any_flatMap]
    exact congrArg (fun f => (List.range (d - k)).any f) (funext fun r => by rw [List.any_map]; rfl)
  rw [e1] at an
  have al := l_allL (M := M) ((List.range d).flatMap fun r => (List.range r).map fun c => T r c == T c r)
  have e2 : ((List.range d).flatMap fun r => (List.range r).map fun c => T r c == T c r).all id = symB d T := by
    unfold symB
    rw [List.all_flatMap]
    exact congrArg (fun f => (List.range d).all f) (funext fun r => by rw [List.all_map]; rfl)
  rw [e2] at al
  refine mkF_rtL (M1 := M) rfl ?_
  refine sSeq_nx (M1 := M) (ρ1 := [some (.dat (shD p k d l)), some (.dat (tD d T)), some (ze p), some (ze (k : Int)), some (ze (d : Int)), some (ze l), none, none]) rfl ?_
  refine sSeq_nx (M1 := M) (sIf_f (M1 := M) (bNot_eq (v := true) (bVal_eq (eCall_eq (M1 := M) (xs := [ze p, ze (d : Int), ze (d : Int), .dat (tD d T)]) rfl ar))) rfl) ?_
  have t3 : bVal (eCB (one (lift1 dAny)) (aCons (eLc2 (iR2 (aCons (eVar 3) (aCons (eVar 4) aNil))) (gNm 6) bYes (iR2 (aCons (eVar 3) (aCons (eVar 4) aNil))) (gNm 7) bYes (eOp fIx (eOp fIx (eVar 1) (eVar 6)) (eVar 7)) [6, 7] [7]) aNil)) [some (.dat (shD p k d l)), some (.dat (tD d T)), some (ze p), some (ze (k : Int)), some (ze (d : Int)), some (ze l), none, none] M = some (lowB k d T, M) := bVal_eq (eCB_eq (M1 := M) (aCons_eq (M1 := M) low rfl) an)
  unfold tabOkB
  cases hlow : lowB k d T with
  | true =>
    rw [hlow] at t3
    exact sSeq_rt (sIf_t (M1 := M) t3 rfl)
  | false =>
    rw [hlow] at t3
    refine sSeq_nx (M1 := M) (sIf_f (M1 := M) t3 rfl) ?_
    exact sRet_eq (eCB_eq (M1 := M) (aCons_eq (M1 := M) sy rfl) al)
theorem is_table_ok {p l : Int} {k d : Nat} (hp : 0 < p) (hk : k ≤ d) (hd : d ≤ 30) (x : PyData) (M : Mem) : F_is_table [.dat (shD p k d l), .dat x] M = some (.dat (.bool (rowsB p d d x && tabOkB k d (entry x))), M) := by
  cases hr : rowsB p d d x with
  | true =>
    obtain ⟨e, b⟩ := rows_tab hp hr
    have := is_table_tab (p := p) (l := l) hk hd b M
    rw [← e] at this
    rw [Bool.true_and]
    exact this
  | false =>
    have ar := are_rows_ok (p := p) (n := (d : Int)) (many := (d : Int)) (by omega) (by omega) x M
    rw [hr] at ar
    rw [Bool.false_and]
    refine mkF_rtL (M1 := M) rfl ?_
    refine sSeq_nx (M1 := M) (ρ1 := [some (.dat (shD p k d l)), some (.dat x), some (ze p), some (ze (k : Int)), some (ze (d : Int)), some (ze l), none, none]) rfl ?_
    exact sSeq_rt (sIf_t (M1 := M) (bNot_eq (v := false) (bVal_eq (eCall_eq (M1 := M) (xs := [ze p, ze (d : Int), ze (d : Int), .dat x]) rfl ar))) rfl)

end Lk38

namespace Lk38
open PySem Sm L2
local macro_rules
  | `(tactic| walk_at "le") => `(tactic| ((try simp only [List.length_cons, List.length_nil, List.length_append, List.length_map]); omega))
local macro_rules
  | `(tactic| walk_at "smb") => `(tactic| first
    | with_reducible assumption
    | with_reducible rfl
    | assumption
    | rfl
    | (simp only [decide_eq_true_eq, decide_eq_false_iff_not, beq_iff_eq, Bool.not_eq_true', Bool.not_eq_false', beq_eq_false_iff_ne, Bool.and_eq_true, Bool.or_eq_true, Bool.not_eq_true, Bool.not_eq_false, ne_eq, Bool.and_eq_false_imp, Bool.or_eq_false_iff]; omega))
local macro_rules
  | `(tactic| walk_at "smf") => `(tactic| fail "no call")
local macro_rules
  | `(tactic| walk_at "sml") => `(tactic| first
    | with_reducible assumption
    | with_reducible exact l_add
    | with_reducible exact l_sub
    | with_reducible exact l_eq
    | with_reducible exact l_ne
    | with_reducible exact l_lt
    | with_reducible exact l_le
    | with_reducible exact l_gt
    | with_reducible exact l_ge
    | with_reducible exact l_eqSS
    | with_reducible exact l_neSS
    | with_reducible exact l_eqBS
    | with_reducible exact l_neBS
    | with_reducible exact l_eqB
    | with_reducible exact l_neB
    | with_reducible exact l_eqS
    | with_reducible exact l_neS
    | with_reducible exact l_neg
    | with_reducible exact isi_int _
    | with_reducible exact isi_bool _
    | with_reducible exact isi_tup _
    | with_reducible exact l_lenL
    | with_reducible exact l_lenT
    | with_reducible exact l_slL
    | with_reducible exact l_slT
    | ((with_reducible apply l_mod); (walk_at "smo"))
    | ((with_reducible apply l_mul); (walk_at "smo"))
    | ((with_reducible apply l_div); (walk_at "smo"); (walk_at "smo"))
    | ((with_reducible apply l_addT); rfl)
    | ((with_reducible apply l_addL); rfl)
    | ((with_reducible apply l_ixL); first | assumption | rfl)
    | ((with_reducible apply l_ixT); first | assumption | rfl)
    | ((with_reducible apply one_eq); (walk_at "sml"))
    | with_reducible assumption
    | rfl)
local macro_rules
  | `(tactic| walk_at "smo") => `(tactic| first | assumption | omega)
local macro_rules
  | `(tactic| walk_at "sm") => `(tactic| first
    | with_reducible assumption
    | with_reducible exact aNil_eq
    | with_reducible exact eC_eq
    | with_reducible exact sNext_eq
    | with_reducible exact eD0_eq
    | ((with_reducible apply eD1_eq); (walk_at "sm"))
    | ((with_reducible apply eC_e); rfl)
    | with_reducible exact oNone_eq
    | ((with_reducible apply eVar_eq); rfl)
    | ((with_reducible apply aCons_eq); (walk_at "sm"); (walk_at "sm"))
    | ((with_reducible apply eOp_eq); (walk_at "sm"); (walk_at "sm"); (walk_at "sml"))
    | ((with_reducible apply eUn_eq); (walk_at "sm"); (walk_at "sml"))
    | ((with_reducible apply eCB_eq); (walk_at "sm"); (walk_at "sml"))
    | ((with_reducible apply eCall_eq); (walk_at "sm"); (first | with_reducible assumption | walk_at "smf"))
    | ((with_reducible apply eTup_e); (walk_at "sm"); rfl; rfl)
    | ((with_reducible apply eLst_e); (walk_at "sm"); rfl; rfl)
    | ((with_reducible apply oSome_eq); (walk_at "sm"))
    | ((with_reducible apply eSl_eq); (walk_at "sm"); (walk_at "sm"); (walk_at "sm"); (walk_at "sml"))
    | ((with_reducible apply eNot_eq); (walk_at "sm"))
    | ((with_reducible apply bNot_eq); (walk_at "sm"))
    | ((with_reducible apply bVal_eq); (walk_at "sm"))
    | ((with_reducible apply bTru_b); (walk_at "sm"))
    | ((with_reducible apply eChain_e); (walk_at "sm"); (walk_at "sm"); (walk_at "sml"); (walk_at "sm"); (walk_at "sml"))
    | ((with_reducible apply eChain3_e); (walk_at "sm"); (walk_at "sm"); (walk_at "sml"); (walk_at "sm"); (walk_at "sml"); (walk_at "sm"); (walk_at "sml"))
    | ((with_reducible apply bOr_e); (walk_at "sm"); (first | ((apply ite_T); (walk_at "smb"); rfl) | ((apply ite_F); (walk_at "smb"); (walk_at "sm")) | ((apply or_gen); (walk_at "sm"))))
    | ((with_reducible apply bAnd_e); (walk_at "sm"); (first | ((apply ite_F); (walk_at "smb"); rfl) | ((apply ite_T); (walk_at "smb"); (walk_at "sm")) | ((apply and_gen); (walk_at "sm"))))
    | ((with_reducible apply eOr_e); (walk_at "sm"); (first | ((apply ite_T); (walk_at "smb"); rfl) | ((apply ite_F); (walk_at "smb"); (walk_at "sm")) | ((apply eor_gen); (walk_at "sm"))))
    | ((with_reducible apply eAnd_e); (walk_at "sm"); (first | ((apply ite_F); (walk_at "smb"); rfl) | ((apply ite_T); (walk_at "smb"); (walk_at "sm")) | ((apply eand_gen); (walk_at "sm"))))
    | ((with_reducible apply eIf_e); (walk_at "sm"); (first | ((apply ite_T); (walk_at "smb"); (walk_at "sm")) | ((apply ite_F); (walk_at "smb"); (walk_at "sm"))))
    | ((with_reducible apply sIf_e); (walk_at "sm"); (first | ((apply ite_T); (walk_at "smb"); (walk_at "sm")) | ((apply ite_F); (walk_at "smb"); (walk_at "sm"))))
    | ((with_reducible apply sSeq_e); (walk_at "sm"); (first | with_reducible exact seqK_rt | ((with_reducible apply seqK_nx); (walk_at "sm")) | ((with_reducible refine Eq.trans seqK_rt ?_); rfl)))
    | ((with_reducible apply sRet_eq); (walk_at "sm"))
    | ((with_reducible apply sAsg_eq); (walk_at "sm"); (walk_at "smg"))
    | with_reducible assumption
    | walk_at "smx")
local macro_rules
  | `(tactic| walk_at "smx") => `(tactic| fail "no step")
local macro_rules
  | `(tactic| walk_at "smg") => `(tactic| first
    | ((with_reducible apply gNm_e); ((dsimp only [List.set]) <;> rfl))
    | ((with_reducible apply gTp_e); rfl; ((dsimp only [setAll, List.set]) <;> rfl))
    | rfl)

/-! ### read_back -/
abbrev qD (q : Int × List Int) : PyData := .tuple [.int q.1, rD q.2]
structure Prs (p d : Nat) (qs : List (Int × List Int)) : Prop where
  ln : qs.length ≤ 20
  bx : ∀ q ∈ qs, 0 ≤ q.1 ∧ q.1 < (p : Int)
  rl : ∀ q ∈ qs, q.2.length = d
  rb : ∀ q ∈ qs, ∀ z ∈ q.2, 0 ≤ z ∧ z < (p : Int)
  un : qs.Pairwise fun a b => ¬ (p : Int) ∣ a.1 - b.1
theorem ev_cat (x : Int) (b : List Int) : ∀ a : List Int, ev x (a ++ b) = ev x a + x ^ a.length * ev x b
  | [] => by simp [ev]
  | z :: a => by
    rw [List.cons_append]
    show z + x * ev x (a ++ b) = (z + x * ev x a) + x ^ (a.length + 1) * ev x b
    rw [ev_cat x b a, Int.mul_add, Int.pow_succ, Int.mul_comm (x ^ a.length) x, Int.mul_assoc]; omega
theorem ev_rep0 (x : Int) : ∀ n : Nat, ev x (List.replicate n 0) = 0
  | 0 => rfl
  | n + 1 => by rw [List.replicate_succ]; show 0 + x * ev x (List.replicate n 0) = 0; rw [ev_rep0 x n]; simp
theorem getD_bd {p : Int} {zs : List Int} (hp : 0 < p) (h : ∀ z ∈ zs, 0 ≤ z ∧ z < p) (i : Nat) : 0 ≤ zs.getD i 0 ∧ zs.getD i 0 < p := by
  rw [List.getD_eq_getElem?_getD]
  cases e : zs[i]? with
  | none => exact ⟨Int.le_refl 0, hp⟩
  | some z => exact h z (List.mem_of_getElem? e)
theorem row_ix {M : Mem} {zs : List Int} {i : Nat} (hi : i < zs.length) : fIx M (.dat (rD zs)) (ze (i : Int)) = some (ze (zs.getD i 0)) := by
  refine l_ixT (atI_in (k := i) rfl ?_)
  rw [List.getElem?_map, List.getElem?_eq_getElem hi, List.getD_eq_getElem?_getD, List.getElem?_eq_getElem hi]; rfl
theorem ct_ok {p : Nat} (hP : PrP p) {d k c : Nat} {qs : List (Int × List Int)} (h : Prs p d qs) (hk : qs.length = k) (hc : c < d) (hd : d ≤ 100) {lower : List Int} (ll : lower.length ≤ 100) (lb : ∀ z ∈ lower, 0 ≤ z ∧ z < (p : Int)) {M : Mem} :
    ∃ up : List Int, up.length = k ∧ (∀ z ∈ up, 0 ≤ z ∧ z < (p : Int)) ∧ (∀ q ∈ qs, hor p q.1 up = (q.2.getD c 0 - hor p q.1 (List.replicate k 0 ++ lower)) % p) ∧ F_column_through [ze p, ze (k : Int), ze (c : Int), .dat (.tuple (qs.map qD)), .dat (rD lower)] M = some (.dat (rD (up ++ lower)), M) := by
  have hp1 := hP.1
  have hp2 := hP.2.1
  have hln := h.ln
  have r1 := l_rep (M := M) (z := 0) (k := (k : Int)) (by omega) (by omega)
  rw [Int.toNat_natCast] at r1
  have a1 : lift2 dAdd M (.dat (rD (List.replicate k 0))) (.dat (rD lower)) = some (.dat (rD (List.replicate k 0 ++ lower))) := by
    unfold rD
    rw [List.map_append]
    exact l_addT (Nat.ble_eq_true_of_le (by rw [List.length_map, List.length_map, List.length_replicate]; omega))
  have lc : eLc (iDat (eVar 3)) (gTp [7, 8]) bYes (eTup (aCons (eVar 7) (aCons (eOp (lift2 dMod) (eOp (lift2 dSub) (eOp fIx (eVar 8) (eVar 2)) (eCall F_worth_at (aCons (eVar 0) (aCons (eVar 5) (aCons (eVar 7) aNil))))) (eVar 0)) aNil))) [7, 8] [some (ze p), some (ze (k : Int)), some (ze (c : Int)), some (.dat (.tuple (qs.map qD))), some (.dat (rD lower)), some (.dat (rD (List.replicate k 0 ++ lower))), none, none, none] M = some (.dat (.list ((qs.map fun q => (q.1, (q.2.getD c 0 - hor p q.1 (List.replicate k 0 ++ lower)) % (p : Int))).map pD)), M) := by
    have key : ∀ qs' : List (Int × List Int), (∀ q ∈ qs', q ∈ qs) → lcL (gTp [7, 8]) bYes (eTup (aCons (eVar 7) (aCons (eOp (lift2 dMod) (eOp (lift2 dSub) (eOp fIx (eVar 8) (eVar 2)) (eCall F_worth_at (aCons (eVar 0) (aCons (eVar 5) (aCons (eVar 7) aNil))))) (eVar 0)) aNil))) [some (ze p), some (ze (k : Int)), some (ze (c : Int)), some (.dat (.tuple (qs.map qD))), some (.dat (rD lower)), some (.dat (rD (List.replicate k 0 ++ lower))), none, none, none] (qs'.map qD) M = some ((qs'.map fun q => (q.1, (q.2.getD c 0 - hor p q.1 (List.replicate k 0 ++ lower)) % (p : Int))).map pD, M) := by
      intro qs'
      induction qs' with
      | nil => intro _; rfl
      | cons q qs' ih =>
        intro hq
        have hm := hq q List.mem_cons_self
        have bx := h.bx q hm
        have rl := h.rl q hm
        have ih' := ih fun r hr => hq r (List.mem_cons_of_mem _ hr)
        have w := worth_ok (p := p) (x := q.1) (rs := List.replicate k 0 ++ lower) (M := M) (by omega) (by omega)
        refine lcL_cons (ρ1 := [some (ze p), some (ze (k : Int)), some (ze (c : Int)), some (.dat (.tuple (qs.map qD))), some (.dat (rD lower)), some (.dat (rD (List.replicate k 0 ++ lower))), none, some (ze q.1), some (.dat (rD q.2))]) rfl ?_ ih'
        exact eTup_eq (xs := [ze q.1, ze ((q.2.getD c 0 - hor p q.1 (List.replicate k 0 ++ lower)) % (p : Int))]) (aCons_eq (M1 := M) rfl (aCons_eq (M1 := M) (eOp_eq (M1 := M) (M2 := M) (eOp_eq (M1 := M) (M2 := M) (eOp_eq (M1 := M) (M2 := M) (x := .dat (rD q.2)) (y := ze (c : Int)) rfl rfl (row_ix (by omega))) (eCall_eq (M1 := M) (xs := [ze p, .dat (rD (List.replicate k 0 ++ lower)), ze q.1]) rfl w) l_sub) (y := ze p) rfl (l_mod (by omega))) rfl)) rfl (show 2 ≤ 100000 by omega)
    exact eLc_eq (M1 := M) (iDat_t rfl) (by rw [List.length_map]; omega) (key qs fun _ h => h)
  obtain ⟨up, e, ul, ub, uw⟩ := through_okL hP (M := M) (ps := qs.map fun q => (q.1, (q.2.getD c 0 - hor p q.1 (List.replicate k 0 ++ lower)) % (p : Int))) (by rw [List.length_map]; omega) (by
    intro q hq
    obtain ⟨r, hr, rfl⟩ := List.mem_map.mp hq
    exact h.bx r hr) (by
    intro q hq
    obtain ⟨r, hr, rfl⟩ := List.mem_map.mp hq
    exact ⟨Int.emod_nonneg _ (by omega), Int.emod_lt_of_pos _ (by omega)⟩) (by
    rw [List.pairwise_map]; exact h.un)
  have ul' : up.length = k := by rw [ul, List.length_map]; exact hk
  have a2 : lift2 dAdd M (.dat (rD up)) (.dat (rD lower)) = some (.dat (rD (up ++ lower))) := by
    unfold rD
    rw [List.map_append]
    exact l_addT (Nat.ble_eq_true_of_le (by rw [List.length_map, List.length_map]; omega))
  refine ⟨up, ul', ub, fun q hq => uw (q.1, _) (List.mem_map.mpr ⟨q, hq, rfl⟩), mkF_rtL (M1 := M) rfl ?_⟩
  refine sSeq_nx (M1 := M) (ρ1 := [some (ze p), some (ze (k : Int)), some (ze (c : Int)), some (.dat (.tuple (qs.map qD))), some (.dat (rD lower)), some (.dat (rD (List.replicate k 0 ++ lower))), none, none, none]) (sAsg_eq (eOp_eq (M1 := M) (M2 := M) (eOp_eq (M1 := M) (M2 := M) (x := .dat (.tuple [.int 0])) (y := ze (k : Int)) rfl rfl r1) (y := .dat (rD lower)) rfl a1) rfl) ?_
  refine sSeq_nx (M1 := M) (ρ1 := [some (ze p), some (ze (k : Int)), some (ze (c : Int)), some (.dat (.tuple (qs.map qD))), some (.dat (rD lower)), some (.dat (rD (List.replicate k 0 ++ lower))), some (.dat (rD up)), none, none]) (sAsg_eq (eCall_eq (M1 := M) (xs := [ze p, .dat (.list ((qs.map fun q => (q.1, (q.2.getD c 0 - hor p q.1 (List.replicate k 0 ++ lower)) % (p : Int))).map pD))]) (aCons_eq (M1 := M) rfl (aCons_eq (M1 := M) lc rfl)) e) rfl) ?_
  exact sRet_eq (eOp_eq (M1 := M) (M2 := M) (x := .dat (rD up)) (y := .dat (rD lower)) rfl rfl a2)
theorem ct_is {p : Nat} (hP : PrP p) {d k c : Nat} {qs : List (Int × List Int)} (h : Prs p d qs) (hk : qs.length = k) {lower up a : List Int} (ul : up.length = k) (ub : ∀ z ∈ up, 0 ≤ z ∧ z < (p : Int)) (uw : ∀ q ∈ qs, hor p q.1 up = (q.2.getD c 0 - hor p q.1 (List.replicate k 0 ++ lower)) % p) (al : a.length = k) (ab : ∀ z ∈ a, 0 ≤ z ∧ z < (p : Int)) (ht : ∀ q ∈ qs, hor p q.1 (a ++ lower) = q.2.getD c 0) : up = a := by
  refine rows_unique hP (xs := qs.map Prod.fst) (by omega) (by rw [List.length_map]; omega) ub ab (by rw [List.pairwise_map]; exact h.un) fun x hx => ?_
  obtain ⟨q, hq, rfl⟩ := List.mem_map.mp hx
  rw [uw q hq, ← ht q hq, hor_ev, hor_ev, hor_ev, ev_cat, ev_cat, ev_rep0, Int.zero_add, al, List.length_replicate]
  apply emod_congr
  obtain ⟨i, hi⟩ := dvd_emod p (ev q.1 a + q.1 ^ k * ev q.1 lower)
  obtain ⟨j, hj⟩ := dvd_emod p (q.1 ^ k * ev q.1 lower)
  refine ⟨i - j, ?_⟩
  rw [Int.mul_sub]; omega
/-- a table of the shape -/
structure Tab (p : Int) (k d : Nat) (T : Nat → Nat → Int) : Prop where
  b : ∀ r c, 0 ≤ T r c ∧ T r c < p
  sym : ∀ r c, r < d → c < d → T r c = T c r
  low : ∀ r c, k ≤ r → r < d → k ≤ c → c < d → T r c = 0
theorem Tab.ok {p : Int} {k d : Nat} {T : Nat → Nat → Int} (h : Tab p k d T) : tabOkB k d T = true := tabOk_iff.mpr ⟨h.sym, h.low⟩
theorem cell_ix {M : Mem} {n : Nat} (f : Nat → PyData) {i : Nat} (hi : i < n) : fIx (M ++ [cd ((List.range n).map f)]) (.cel M.length) (ze (i : Int)) = some (.dat (f i)) := by
  have g : (M ++ [cd ((List.range n).map f)])[M.length]? = some (cd ((List.range n).map f)) := by rw [List.getElem?_append_right (Nat.le_refl _), Nat.sub_self]; rfl
  have e : atI (((List.range n).map f).map SV.dat) (i : Int) = some (.dat (f i)) := atI_in (k := i) rfl (by rw [List.getElem?_map, List.getElem?_map, List.getElem?_range hi]; rfl)
  simp only [fIx, g]
  exact e
theorem range_rev {d i : Nat} {x : PyData} (h : (rangeD 0 (d : Int)).reverse[i]? = some x) : i < d ∧ x = .int ((d - 1 - i : Nat) : Int) := by
  have hl : i < d := by
    have := (List.getElem?_eq_some_iff.mp h).1
    rw [List.length_reverse, rangeD_len] at this
    omega
  refine ⟨hl, ?_⟩
  rw [List.getElem?_reverse (by rw [rangeD_len]; omega), rangeD_len, range_nat, List.getElem?_map, show ((d : Int) - 0).toNat - 1 - i = d - 1 - i by omega, List.getElem?_range (by omega)] at h
  simp only [Option.map_some, Option.some.injEq] at h
  exact h.symm
theorem iRr1_eq {a : SE} {ρ : Rho} {M M1 : Mem} {j : Int} (h : a ρ M = some (ze j, M1)) (h1 : -(2 ^ 62) ≤ j) (h2 : j < 2 ^ 62) : iRr1 a ρ M = some ((rangeD 0 j).reverse, M1) := by
  unfold iRr1
  rw [h]
  show (if -(2 ^ 62) ≤ j ∧ j < 2 ^ 62 then some ((rangeD 0 j).reverse, M1) else none) = _
  rw [if_pos ⟨h1, h2⟩]
theorem set_range {d c i : Nat} (hc : c + i + 1 = d) (f : Nat → PyData) (x : PyData) :
    (((List.range d).map fun j => if j + i < d then PyData.tuple [] else f j).map SV.dat).set c (.dat x) = ((List.range d).map fun j => if j + (i + 1) < d then PyData.tuple [] else if j = c then x else f j).map SV.dat := by
  refine List.ext_getElem? fun j => ?_
  rw [List.getElem?_set]
  by_cases hj : j < d
  · rw [List.getElem?_map, List.getElem?_map, List.getElem?_map, List.getElem?_map, List.getElem?_range hj]
    simp only [Option.map_some, List.length_map, List.length_range]
    by_cases e : c = j
    · subst e
      rw [if_pos rfl, if_pos hj, if_neg (by omega), if_pos rfl]
    · rw [if_neg e]
      by_cases q : j + (i + 1) < d
      · rw [if_pos q, if_pos (by omega)]
      · rw [if_neg q, if_neg (by omega), if_neg (fun z => e z.symm)]
  · rw [List.getElem?_eq_none (by rw [List.length_map, List.length_map, List.length_range]; omega), List.getElem?_eq_none (by rw [List.length_map, List.length_map, List.length_range]; omega)]
    split
    · rw [if_neg (by rw [List.length_map, List.length_map, List.length_range]; omega)]
    · rfl
abbrev clT (d : Nat) (C : Nat → List Int) (r c : Nat) : Int := if r < d then (C r).getD c 0 else 0
theorem col_cat {d k : Nat} (hk : k ≤ d) (f : Nat → Int) : (List.range d).map f = (List.range k).map f ++ (List.range (d - k)).map fun j => f (k + j) := by
  have : List.range d = List.range k ++ (List.range (d - k)).map (k + ·) := by
    rw [← List.range_add, show k + (d - k) = d by omega]
  rw [this, List.map_append, List.map_map]; rfl
theorem read_back_ok {p : Nat} (hP : PrP p) {l : Int} {k d : Nat} (hk : k ≤ d) (hd : d ≤ 30) {qs : List (Int × List Int)} (h : Prs p d qs) (hl : qs.length = k) {M : Mem} :
    ∃ C : Nat → List Int, (∀ j, j < d → (C j).length = d ∧ ∀ z ∈ C j, 0 ≤ z ∧ z < (p : Int)) ∧ (∀ T, Tab p k d T → (∀ q ∈ qs, q.2 = keptL p d T q.1) → ∀ j, j < d → C j = (List.range d).map fun c => T j c) ∧
      F_read_back [.dat (shD p k d l), .dat (.tuple (qs.map qD))] M = some (.dat (if tabOkB k d (clT d C) = true then tD d (clT d C) else .none), M) := by
  have hp1 := hP.1
  have hln := h.ln
  obtain ⟨ρ', M', e, C, o7, o8, rfl, rfl, hC, hT⟩ := loop_inv (g := gNm 7) (s := Lb_read_back_4_1) (fun i ρ M1 => ∃ (C : Nat → List Int) (o7 o8 : Option SV), ρ = [some (.dat (shD p k d l)), some (.dat (.tuple (qs.map qD))), some (ze p), some (ze (k : Int)), some (ze (d : Int)), some (ze l), some (.cel M.length), o7, o8, none, none] ∧ M1 = M ++ [cd ((List.range d).map fun j => if j + i < d then PyData.tuple [] else rD (C j))] ∧ (∀ j, j < d → d ≤ j + i → (C j).length = d ∧ ∀ z ∈ C j, 0 ≤ z ∧ z < (p : Int)) ∧ ∀ T, Tab p k d T → (∀ q ∈ qs, q.2 = keptL p d T q.1) → ∀ j, j < d → d ≤ j + i → C j = (List.range d).map fun c => T j c) (rangeD 0 (d : Int)).reverse 0 [some (.dat (shD p k d l)), some (.dat (.tuple (qs.map qD))), some (ze p), some (ze (k : Int)), some (ze (d : Int)), some (ze l), some (.cel M.length), none, none, none, none] (M ++ [cd ((List.range d).map fun _ => PyData.tuple [])]) ⟨fun _ => [], none, none, rfl, by
      congr 3
      refine List.map_congr_left fun j hj => ?_
      rw [if_pos (by have := List.mem_range.mp hj; omega)], fun j h1 h2 => by omega, fun T _ _ j h1 h2 => by omega⟩ (by
    rintro i e ρ M1 he ⟨C, o7, o8, rfl, rfl, hC, hT⟩
    obtain ⟨hi, rfl⟩ := range_rev he
    rw [Nat.zero_add] at *
    have hci : d - 1 - i + i + 1 = d := by omega
    generalize d - 1 - i = c at *
    have hcd : c < d := by omega
    generalize hMM : M ++ [cd ((List.range d).map fun j => if j + i < d then PyData.tuple [] else rD (C j))] = MM at *
    obtain ⟨lower, el, llen, lb, lT⟩ : ∃ lower : List Int, eIf (bVal (eOp (lift2 dLt) (eVar 7) (eVar 3))) (eCB (one fTuple) (aCons (eLc (iR2 (aCons (eVar 3) (aCons (eVar 4) aNil))) (gNm 10) bYes (eOp fIx (eOp fIx (eVar 6) (eVar 10)) (eVar 7)) [10]) aNil)) (eOp (lift2 dMul) (eTup (aCons (eC (.int 0)) aNil)) (eOp (lift2 dSub) (eVar 4) (eVar 3))) [some (.dat (shD p k d l)), some (.dat (.tuple (qs.map qD))), some (ze p), some (ze (k : Int)), some (ze (d : Int)), some (ze l), some (.cel M.length), some (ze (c : Int)), o8, none, none] MM = some (.dat (rD lower), MM) ∧ lower.length = d - k ∧ (∀ z ∈ lower, 0 ≤ z ∧ z < (p : Int)) ∧ (∀ T, Tab p k d T → (∀ q ∈ qs, q.2 = keptL p d T q.1) → lower = (List.range (d - k)).map fun j => T (k + j) c) := by
      have tst : bVal (eOp (lift2 dLt) (eVar 7) (eVar 3)) [some (.dat (shD p k d l)), some (.dat (.tuple (qs.map qD))), some (ze p), some (ze (k : Int)), some (ze (d : Int)), some (ze l), some (.cel M.length), some (ze (c : Int)), o8, none, none] MM = some (decide ((c : Int) < (k : Int)), MM) := bVal_eq (eOp_eq (M1 := MM) (M2 := MM) (x := ze (c : Int)) (y := ze (k : Int)) rfl rfl l_lt)
      by_cases hck : c < k
      · rw [decide_eq_true (show (c : Int) < (k : Int) by omega)] at tst
        refine ⟨(List.range (d - k)).map fun j => (C (k + j)).getD c 0, eIf_e (M1 := MM) tst ?_, by rw [List.length_map, List.length_range], ?_, ?_⟩
        · rw [if_pos rfl]
          have lc := lcL_map (g := gNm 10) (ρ := [some (.dat (shD p k d l)), some (.dat (.tuple (qs.map qD))), some (ze p), some (ze (k : Int)), some (ze (d : Int)), some (ze l), some (.cel M.length), some (ze (c : Int)), o8, none, none]) (M := MM) (el := eOp fIx (eOp fIx (eVar 6) (eVar 10)) (eVar 7)) (f := fun e => match e with | .int z => PyData.int ((C z.toNat).getD c 0) | _ => .none) (rangeD (k : Int) (d : Int)) (by
            intro e he
            rw [range_from] at he
            obtain ⟨j, hj, rfl⟩ := List.mem_map.mp he
            rw [List.mem_range] at hj
            have c1 := cell_ix (M := M) (n := d) (fun j => if j + i < d then PyData.tuple [] else rD (C j)) (i := k + j) (by omega)
            rw [hMM, if_neg (by omega)] at c1
            obtain ⟨cl, _⟩ := hC (k + j) (by omega) (by omega)
            exact ⟨_, rfl, eOp_eq (M1 := MM) (M2 := MM) (eOp_eq (M1 := MM) (M2 := MM) (x := .cel M.length) (y := ze ((k + j : Nat) : Int)) rfl rfl c1) (y := ze (c : Int)) rfl (row_ix (by omega))⟩)
          rw [range_from, List.map_map] at lc
          have el := eLc_eq (it := iR2 (aCons (eVar 3) (aCons (eVar 4) aNil))) (vs := [10]) (ρ := [some (.dat (shD p k d l)), some (.dat (.tuple (qs.map qD))), some (ze p), some (ze (k : Int)), some (ze (d : Int)), some (ze l), some (.cel M.length), some (ze (c : Int)), o8, none, none]) (M := MM) (M1 := MM) (iR2_eq (M1 := MM) (i := (k : Int)) (j := (d : Int)) rfl (by omega) (by omega) (by omega) (by omega)) (by rw [rangeD_len]; omega) (by rw [range_from]; exact lc)
          unfold rD
          rw [List.map_map]
          exact eCB_eq (M1 := MM) (aCons_eq (M1 := MM) el rfl) rfl
        · intro z hz
          obtain ⟨j, hj, rfl⟩ := List.mem_map.mp hz
          rw [List.mem_range] at hj
          exact getD_bd (by omega) (hC (k + j) (by omega) (by omega)).2 c
        · intro T t1 t2
          refine List.map_congr_left fun j hj => ?_
          rw [List.mem_range] at hj
          rw [hT T t1 t2 (k + j) (by omega) (by omega), List.getD_eq_getElem?_getD, List.getElem?_map, List.getElem?_range hcd]; rfl
      · rw [decide_eq_false (show ¬ (c : Int) < (k : Int) by omega)] at tst
        have r1 := l_rep (M := MM) (z := 0) (k := (d : Int) - (k : Int)) (by omega) (by omega)
        rw [show ((d : Int) - (k : Int)).toNat = d - k by omega] at r1
        refine ⟨List.replicate (d - k) 0, eIf_e (M1 := MM) tst ?_, List.length_replicate, ?_, ?_⟩
        · rw [if_neg (by decide)]
          exact eOp_eq (M1 := MM) (M2 := MM) (x := .dat (.tuple [.int 0])) rfl (eOp_eq (M1 := MM) (M2 := MM) (x := ze (d : Int)) (y := ze (k : Int)) rfl rfl l_sub) r1
        · intro z hz
          rw [List.eq_of_mem_replicate hz]; omega
        · intro T t1 t2
          refine (List.eq_replicate_iff.mpr ⟨by rw [List.length_map, List.length_range], fun z hz => ?_⟩).symm
          obtain ⟨j, hj, rfl⟩ := List.mem_map.mp hz
          rw [List.mem_range] at hj
          exact t1.low (k + j) c (by omega) (by omega) (by omega) hcd
    obtain ⟨up, ul, ub, uw, ec⟩ := ct_ok hP h hl hcd (by omega) (by omega) lb (M := MM)
    have st : gStore (eVar 6) (eVar 7) (.dat (rD (up ++ lower))) [some (.dat (shD p k d l)), some (.dat (.tuple (qs.map qD))), some (ze p), some (ze (k : Int)), some (ze (d : Int)), some (ze l), some (.cel M.length), some (ze (c : Int)), some (.dat (rD lower)), none, none] MM = some ([some (.dat (shD p k d l)), some (.dat (.tuple (qs.map qD))), some (ze p), some (ze (k : Int)), some (ze (d : Int)), some (ze l), some (.cel M.length), some (ze (c : Int)), some (.dat (rD lower)), none, none], M ++ [cd ((List.range d).map fun j => if j + (i + 1) < d then PyData.tuple [] else rD (if j = c then up ++ lower else C j))]) := by
      have g : MM[M.length]? = some (cd ((List.range d).map fun j => if j + i < d then PyData.tuple [] else rD (C j))) := by rw [← hMM, List.getElem?_append_right (Nat.le_refl _), Nat.sub_self]; rfl
      have ix : ixN (((List.range d).map fun j => if j + i < d then PyData.tuple [] else rD (C j)).map SV.dat).length (c : Int) = some c := ixN_in (by rw [List.length_map, List.length_map, List.length_range]; exact hcd)
      have sr := set_range hci (fun j => rD (C j)) (rD (up ++ lower))
      have e6 : eVar 6 [some (.dat (shD p k d l)), some (.dat (.tuple (qs.map qD))), some (ze p), some (ze (k : Int)), some (ze (d : Int)), some (ze l), some (.cel M.length), some (ze (c : Int)), some (.dat (rD lower)), none, none] MM = some (.cel M.length, MM) := rfl
      have e7 : eVar 7 [some (.dat (shD p k d l)), some (.dat (.tuple (qs.map qD))), some (ze p), some (ze (k : Int)), some (ze (d : Int)), some (ze l), some (.cel M.length), some (ze (c : Int)), some (.dat (rD lower)), none, none] MM = some (ze (c : Int), MM) := rfl
      simp only [gStore, e6, e7, Option.bind_some, g, ix, sr]
      rw [← hMM, List.set_append_right _ _ (Nat.le_refl _), Nat.sub_self]
      congr 3
      show [some _] = [cd _]
      unfold cd
      congr 3
      refine List.map_congr_left fun j _ => ?_
      split
      · rfl
      · split <;> rfl
    refine ⟨_, MM, _, _, rfl, sSeq_nx (M1 := MM) (ρ1 := [some (.dat (shD p k d l)), some (.dat (.tuple (qs.map qD))), some (ze p), some (ze (k : Int)), some (ze (d : Int)), some (ze l), some (.cel M.length), some (ze (c : Int)), some (.dat (rD lower)), none, none]) (sAsg_eq el rfl) (sAsg_eq (eCall_eq (M1 := MM) (xs := [ze p, ze (k : Int), ze (c : Int), .dat (.tuple (qs.map qD)), .dat (rD lower)]) rfl ec) st), fun j => if j = c then up ++ lower else C j, some (ze (c : Int)), some (.dat (rD lower)), rfl, rfl, ?_, ?_⟩
    · intro j h1 h2
      by_cases e : j = c
      · dsimp only
        rw [if_pos e]
        refine ⟨by rw [List.length_append]; omega, fun z hz => ?_⟩
        rcases List.mem_append.mp hz with q | q
        · exact ub z q
        · exact lb z q
      · dsimp only
        rw [if_neg e]
        exact hC j h1 (by omega)
    · intro T t1 t2 j h1 h2
      by_cases e : j = c
      · dsimp only
        rw [if_pos e]
        subst e
        have hlo := lT T t1 t2
        have cc := col_cat hk fun r => T r j
        rw [← hlo] at cc
        have ua := ct_is hP h hl (c := j) (lower := lower) (a := (List.range k).map fun r => T r j) ul ub uw (by rw [List.length_map, List.length_range]) (by
          intro z hz
          obtain ⟨r, _, rfl⟩ := List.mem_map.mp hz
          exact t1.b r j) (by
          intro q hq
          rw [← cc, t2 q hq]
          unfold keptL
          rw [List.getD_eq_getElem?_getD, List.getElem?_map, List.getElem?_range hcd]; rfl)
        rw [ua, ← cc]
        exact List.map_congr_left fun r hr => t1.sym r j (List.mem_range.mp hr) hcd
      · dsimp only
        rw [if_neg e]
        exact hT T t1 t2 j h1 (by omega))
  rw [List.length_reverse, rangeD_len, show 0 + ((d : Int) - 0).toNat = d by omega] at *
  refine ⟨C, fun j hj => hC j hj (by omega), fun T t1 t2 j hj => hT T t1 t2 j hj (by omega), ?_⟩
  have en : ((List.range d).map fun j => if j + d < d then PyData.tuple [] else rD (C j)) = (List.range d).map fun r => PyData.tuple ((List.range d).map fun c => .int (clT d C r c)) := by
    refine List.map_congr_left fun r hr => ?_
    rw [List.mem_range] at hr
    rw [if_neg (by omega)]
    unfold rD
    rw [row_fn, (hC r hr (by omega)).1]
    congr 1
    refine List.map_congr_left fun c _ => ?_
    unfold clT
    rw [if_pos hr]
  rw [en] at e
  have Tb : ∀ r c, 0 ≤ clT d C r c ∧ clT d C r c < (p : Int) := by
    intro r c
    unfold clT
    split
    · rename_i hr
      exact getD_bd (by omega) (hC r hr (by omega)).2 c
    · omega
  have fr := frz_at (k := 6) (ρ := [some (.dat (shD p k d l)), some (.dat (.tuple (qs.map qD))), some (ze p), some (ze (k : Int)), some (ze (d : Int)), some (ze l), some (.cel M.length), none, none, none, none]) (M0 := M ++ [cd ((List.range d).map fun _ => PyData.tuple [])]) (s := sFor (iRr1 (eVar 4)) (gNm 7) Lb_read_back_4_1) (sFor_eq (M1 := M ++ [cd ((List.range d).map fun _ => PyData.tuple [])]) (iRr1_eq (j := (d : Int)) rfl (by omega) (by omega)) e) rfl
  have new : eLcN (iR1 (aCons (eVar 4) aNil)) (gNm 7) bYes (eTup aNil) [7] [some (.dat (shD p k d l)), some (.dat (.tuple (qs.map qD))), some (ze p), some (ze (k : Int)), some (ze (d : Int)), some (ze l), none, none, none, none, none] M = some (.cel M.length, M ++ [cd ((List.range d).map fun _ => PyData.tuple [])]) := by
    have lc := lcL_map (g := gNm 7) (ρ := [some (.dat (shD p k d l)), some (.dat (.tuple (qs.map qD))), some (ze p), some (ze (k : Int)), some (ze (d : Int)), some (ze l), none, none, none, none, none]) (M := M) (el := eTup aNil) (f := fun _ => PyData.tuple []) (rangeD 0 (d : Int)) (fun e _ => ⟨_, rfl, rfl⟩)
    have hm : (rangeD 0 (d : Int)).map (fun _ => PyData.tuple []) = (List.range d).map fun _ => PyData.tuple [] := by rw [range_nat, List.map_map]; rfl
    rw [hm] at lc
    have i1 : iR1 (aCons (eVar 4) aNil) [some (.dat (shD p k d l)), some (.dat (.tuple (qs.map qD))), some (ze p), some (ze (k : Int)), some (ze (d : Int)), some (ze l), none, none, none, none, none] M = some (rangeD 0 (d : Int), M) := iR1_eq (M1 := M) (j := (d : Int)) rfl (by omega) (by omega)
    have w : wipeR [some (.dat (shD p k d l)), some (.dat (.tuple (qs.map qD))), some (ze p), some (ze (k : Int)), some (ze (d : Int)), some (ze l), none, none, none, none, none] [7] = [some (.dat (shD p k d l)), some (.dat (.tuple (qs.map qD))), some (ze p), some (ze (k : Int)), some (ze (d : Int)), some (ze l), none, none, none, none, none] := rfl
    have hlen : (rangeD 0 (d : Int)).length ≤ 100000 := by rw [rangeD_len]; omega
    simp only [eLcN, i1, Option.bind_some, hlen, if_true, w, lc]
  have tb := is_table_tab (p := p) (l := l) hk hd Tb (M ++ [none])
  have len : fLen M (.dat (.tuple (qs.map qD))) = some (ze (k : Int)) := by
    show some (ze ((qs.map qD).length : Int)) = _
    rw [List.length_map, hl]
  have n0 : lift2 dNe M (ze (k : Int)) (ze (k : Int)) = some (.dat (.bool false)) := by rw [l_ne]; simp
  have res := mkF_rt (n := 11) (s := B_read_back) (args := [.dat (shD p k d l), .dat (.tuple (qs.map qD))]) (M := M) (M1 := M ++ [none]) (d := if tabOkB k d (clT d C) = true then tD d (clT d C) else .none) (by
    refine sSeq_nx (M1 := M) (ρ1 := [some (.dat (shD p k d l)), some (.dat (.tuple (qs.map qD))), some (ze p), some (ze (k : Int)), some (ze (d : Int)), some (ze l), none, none, none, none, none]) rfl ?_
    refine sSeq_nx (M1 := M) (sIf_f (M1 := M) (bVal_eq (eOp_eq (M1 := M) (M2 := M) (eCB_eq (M1 := M) (xs := [.dat (.tuple (qs.map qD))]) rfl len) (y := ze (k : Int)) rfl n0)) rfl) ?_
    refine sSeq_nx (M1 := M ++ [cd ((List.range d).map fun _ => PyData.tuple [])]) (ρ1 := [some (.dat (shD p k d l)), some (.dat (.tuple (qs.map qD))), some (ze p), some (ze (k : Int)), some (ze (d : Int)), some (ze l), some (.cel M.length), none, none, none, none]) (sAsg_eq new rfl) ?_
    refine sSeq_nx fr ?_
    refine sSeq_nx (M1 := M ++ [none]) (ρ1 := [some (.dat (shD p k d l)), some (.dat (.tuple (qs.map qD))), some (ze p), some (ze (k : Int)), some (ze (d : Int)), some (ze l), some (.dat (.list ((List.range d).map fun r => PyData.tuple ((List.range d).map fun c => .int (clT d C r c))))), o7, o8, some (.dat (tD d (clT d C))), none]) rfl ?_
    refine sRet_eq (eIf_e (M1 := M ++ [none]) (bVal_eq (eCall_eq (M1 := M ++ [none]) (xs := [.dat (shD p k d l), .dat (tD d (clT d C))]) rfl tb)) ?_)
    cases tabOkB k d (clT d C) <;> rfl)
  rw [List.take_left' rfl] at res
  exact res
/-- of rows that are kept of a table the very table -/
theorem read_back_is {p : Nat} (hP : PrP p) {l : Int} {k d : Nat} (hk : k ≤ d) (hd : d ≤ 30) {qs : List (Int × List Int)} (h : Prs p d qs) (hl : qs.length = k) {M : Mem} {T : Nat → Nat → Int} (t1 : Tab p k d T) (t2 : ∀ q ∈ qs, q.2 = keptL p d T q.1) : F_read_back [.dat (shD p k d l), .dat (.tuple (qs.map qD))] M = some (.dat (tD d T), M) := by
  obtain ⟨C, hC, hT, e⟩ := read_back_ok hP (l := l) hk hd h hl (M := M)
  have hc := hT T t1 t2
  have eT : ∀ r c, r < d → c < d → clT d C r c = T r c := by
    intro r c hr hcc
    unfold clT
    rw [if_pos hr, hc r hr, List.getD_eq_getElem?_getD, List.getElem?_map, List.getElem?_range hcc]; rfl
  have td : tD d (clT d C) = tD d T := by
    unfold tD
    congr 1
    refine List.map_congr_left fun r hr => ?_
    congr 1
    refine List.map_congr_left fun c hcc => ?_
    rw [eT r c (List.mem_range.mp hr) (List.mem_range.mp hcc)]
  have ok : tabOkB k d (clT d C) = true := by
    rw [tabOk_iff]
    refine ⟨fun r c hr hcc => ?_, fun r c h1 h2 h3 h4 => ?_⟩
    · rw [eT r c hr hcc, eT c r hcc hr]; exact t1.sym r c hr hcc
    · rw [eT r c h2 h4]; exact t1.low r c h1 h2 h3 h4
  rw [if_pos ok, td] at e
  exact e

/-! ### read_right -/
abbrev wrongR (p : Int) (d : Nat) (T : Nat → Nat → Int) (qs : List (Int × List Int)) : List (Int × List Int) := qs.filter fun q => !(q.2 == keptL p d T q.1)
theorem keeping_ok {p : Nat} (pb : 11 ≤ (p : Int) ∧ (p : Int) ≤ 211) {l : Int} {k d : Nat} (hd : d ≤ 30) {T : Nat → Nat → Int} {qs : List (Int × List Int)} {M : Mem} (hl : qs.length ≤ 20) (bx : ∀ q ∈ qs, 0 ≤ q.1 ∧ q.1 < (p : Int)) {v : SV} (hv : v = .dat (.tuple (qs.map qD)) ∨ v = .dat (.list (qs.map qD))) :
    F_keeping_others [.dat (shD p k d l), .dat (tD d T), v] M = some (.dat (rD ((wrongR p d T qs).map Prod.fst)), M) := by
  have it : iDat (eVar 2) [some (.dat (shD p k d l)), some (.dat (tD d T)), some v, none, none] M = some (qs.map qD, M) := by rcases hv with rfl | rfl <;> rfl
  have lc := lcL_filter (g := gTp [3, 4]) (tt := bVal (eOp (lift2 dNe) (eCall F_keeps_of (aCons (eVar 0) (aCons (eVar 1) (aCons (eVar 3) aNil)))) (eCB (one fTuple) (aCons (eVar 4) aNil)))) (el := eVar 3) (ρ := [some (.dat (shD p k d l)), some (.dat (tD d T)), some v, none, none]) (M := M)
    (p := fun e => match e with | .tuple [.int x, .tuple ds] => !((intsOf ds).getD [] == keptL p d T x) | _ => false) (f := fun e => match e with | .tuple [.int x, _] => .int x | d => d) (qs.map qD) (by
      intro e he
      obtain ⟨q, hq, rfl⟩ := List.mem_map.mp he
      have bq := bx q hq
      have k1 := keeps_ok (p := p) (x := q.1) (k := k) (l := l) (d := d) (T := T) (M := M) (by omega) (by omega) (by omega)
      have ne := l_neInts (M := M) (keptL p d T q.1) q.2
      refine ⟨[some (.dat (shD p k d l)), some (.dat (tD d T)), some v, some (ze q.1), some (.dat (rD q.2))], rfl, ?_, fun _ => rfl⟩
      show _ = some (!((intsOf (q.2.map PyData.int)).getD [] == keptL p d T q.1), M)
      rw [intsOf_map]
      refine bVal_eq (eOp_eq (M1 := M) (M2 := M) (eCall_eq (M1 := M) (xs := [.dat (shD p k d l), .dat (tD d T), ze q.1]) rfl k1) (eCB_eq (M1 := M) (xs := [.dat (rD q.2)]) rfl rfl) ?_)
      rw [ne]
      show _ = some (SV.dat (PyData.bool (!(q.2 == keptL p d T q.1))))
      rw [Bool.beq_comm])
  have e : ((qs.map qD).filter fun e => match e with | .tuple [.int x, .tuple ds] => !((intsOf ds).getD [] == keptL p d T x) | _ => false).map (fun e => match e with | .tuple [.int x, _] => PyData.int x | d => d) = ((wrongR p d T qs).map Prod.fst).map PyData.int := by
    rw [List.filter_map, List.map_map, List.map_map]
    have : ((fun e : PyData => match e with | .tuple [.int x, .tuple ds] => !((intsOf ds).getD [] == keptL p d T x) | _ => false) ∘ qD) = fun q => !(q.2 == keptL p d T q.1) := funext fun q => by
      show (!((intsOf (q.2.map PyData.int)).getD [] == keptL p d T q.1)) = _
      rw [intsOf_map]; rfl
    rw [this]; rfl
  rw [e] at lc
  exact mkF_rtL (M1 := M) rfl (sRet_eq (eCB_eq (M1 := M) (xs := [.dat (.list (((wrongR p d T qs).map Prod.fst).map PyData.int))]) (aCons_eq (eLc_eq (M1 := M) it (by rw [List.length_map]; omega) lc) rfl) rfl))
theorem both_kept (p : Int) (d : Nat) (T U : Nat → Nat → Int) : ∀ qs : List (Int × List Int), qs.length ≤ (qs.filter fun q => (q.2 == keptL p d T q.1) && (q.2 == keptL p d U q.1)).length + (wrongR p d T qs).length + (wrongR p d U qs).length
  | [] => Nat.zero_le _
  | q :: qs => by
    have ih := both_kept p d T U qs
    unfold wrongR at ih ⊢
    cases h1 : q.2 == keptL p d T q.1 <;> cases h2 : q.2 == keptL p d U q.1 <;> simp only [List.filter_cons, h1, h2, Bool.not_true, Bool.not_false, Bool.and_true, Bool.and_false, Bool.and_self, Bool.false_eq_true, if_true, if_false, List.length_cons] <;> omega
theorem Prs.sub {p d : Nat} {qs g : List (Int × List Int)} (h : Prs p d qs) (s : g.Sublist qs) : Prs p d g :=
  ⟨Nat.le_trans s.length_le h.ln, fun q hq => h.bx q (s.subset hq), fun q hq => h.rl q (s.subset hq), fun q hq => h.rb q (s.subset hq), h.un.sublist s⟩
/-- two tables of which k of them keep the same are one -/
theorem tabs_one {p : Nat} (hP : PrP p) {k d : Nat} (hk : k ≤ d) (hd : d ≤ 30) {g : List (Int × List Int)} (h : Prs p d g) (hl : g.length = k) {T U : Nat → Nat → Int} (t1 : Tab p k d T) (t2 : ∀ q ∈ g, q.2 = keptL p d T q.1) (u1 : Tab p k d U) (u2 : ∀ q ∈ g, q.2 = keptL p d U q.1) : tD d T = tD d U ∧ ∀ x, keptL p d T x = keptL p d U x := by
  have a := read_back_is hP (l := 0) hk hd h hl (M := []) t1 t2
  have b := read_back_is hP (l := 0) hk hd h hl (M := []) u1 u2
  rw [a] at b
  injection b with z
  injection z with z _
  injection z with z
  refine ⟨z, fun x => ?_⟩
  have e : ∀ r c, r < d → c < d → T r c = U r c := by
    have := eqv_tab d T U
    rw [z, SeqAt.eqv_refl _ (SeqAt.canLay_of_shaped (tab_shaped d U))] at this
    exact tab_eq_iff.mp this.symm
  unfold keptL
  refine List.map_congr_left fun c hc => ?_
  congr 1
  exact List.map_congr_left fun r hr => e r c (List.mem_range.mp hr) (List.mem_range.mp hc)
theorem clT_tab {p : Nat} (hp : 0 < p) {k d : Nat} {C : Nat → List Int} (hC : ∀ j, j < d → (C j).length = d ∧ ∀ z ∈ C j, 0 ≤ z ∧ z < (p : Int)) (h : tabOkB k d (clT d C) = true) : Tab p k d (clT d C) := by
  obtain ⟨h1, h2⟩ := tabOk_iff.mp h
  refine ⟨fun r c => ?_, h1, h2⟩
  unfold clT
  split
  · rename_i hr
    exact getD_bd (by omega) (hC r hr).2 c
  · omega
theorem loop_out {g : SG} {s : SS} {ρ ρ1 : Rho} {M M1 M2 : Mem} {d : PyData} {ds : List PyData} {v : SV} (h1 : g (.dat d) ρ M = some (ρ1, M1)) (h2 : s ρ1 M1 = some (.rt v M2)) : loop g s (d :: ds) ρ M = some (.rt v M2) := by
  simp only [loop, h1, Option.bind_some, h2]
theorem rr_loop {p : Nat} (hP : PrP p) (pb : 11 ≤ (p : Int) ∧ (p : Int) ≤ 211) {l : Int} {k d : Nat} (hk1 : 1 ≤ k) (hk : k ≤ d) (hd : d ≤ 30) {qs : List (Int × List Int)} (h : Prs p d qs) {T : Nat → Nat → Int} (t1 : Tab p k d T) {most : Nat} (hm : k + 2 * most ≤ qs.length) (ht : (wrongR p d T qs).length ≤ most) {M : Mem} : ∀ (gs : List (List (Int × List Int))), (∀ g ∈ gs, g.Sublist qs ∧ g.length = k) → ∀ (o4 o5 o6 : Option SV),
    loop (gNm 4) Lb_read_right_3_1 (gs.map fun g => PyData.tuple (g.map qD)) [some (.dat (shD p k d l)), some (.dat (.tuple (qs.map qD))), some (ze (k : Int)), some (ze (most : Int)), o4, o5, o6] M = some (.rt (.dat (.tuple [tD d T, rD ((wrongR p d T qs).map Prod.fst)])) M) ∨
    ((∀ g ∈ gs, ¬ ∀ q ∈ g, q.2 = keptL p d T q.1) ∧ ∃ o4' o5' o6', loop (gNm 4) Lb_read_right_3_1 (gs.map fun g => PyData.tuple (g.map qD)) [some (.dat (shD p k d l)), some (.dat (.tuple (qs.map qD))), some (ze (k : Int)), some (ze (most : Int)), o4, o5, o6] M = some (.nx [some (.dat (shD p k d l)), some (.dat (.tuple (qs.map qD))), some (ze (k : Int)), some (ze (most : Int)), o4', o5', o6'] M))
  | [], _, o4, o5, o6 => .inr ⟨(fun _ h => nomatch h), o4, o5, o6, rfl⟩
  | g :: gs, hg, o4, o5, o6 => by
    have hp1 := hP.1
    obtain ⟨g1, g2⟩ := hg g List.mem_cons_self
    have hln := h.ln
    obtain ⟨C, hC, hT, eb⟩ := read_back_ok hP (l := l) hk hd (h.sub g1) g2 (M := M)
    have nx : ∀ o6' o5', Lb_read_right_3_1 [some (.dat (shD p k d l)), some (.dat (.tuple (qs.map qD))), some (ze (k : Int)), some (ze (most : Int)), some (.dat (.tuple (g.map qD))), o5, o6] M = some (.nx [some (.dat (shD p k d l)), some (.dat (.tuple (qs.map qD))), some (ze (k : Int)), some (ze (most : Int)), some (.dat (.tuple (g.map qD))), o5', o6'] M) → (¬ ∀ q ∈ g, q.2 = keptL p d T q.1) → loop (gNm 4) Lb_read_right_3_1 ((g :: gs).map fun g => PyData.tuple (g.map qD)) [some (.dat (shD p k d l)), some (.dat (.tuple (qs.map qD))), some (ze (k : Int)), some (ze (most : Int)), o4, o5, o6] M = some (.rt (.dat (.tuple [tD d T, rD ((wrongR p d T qs).map Prod.fst)])) M) ∨ ((∀ g' ∈ g :: gs, ¬ ∀ q ∈ g', q.2 = keptL p d T q.1) ∧ ∃ o4' o5' o6', loop (gNm 4) Lb_read_right_3_1 ((g :: gs).map fun g => PyData.tuple (g.map qD)) [some (.dat (shD p k d l)), some (.dat (.tuple (qs.map qD))), some (ze (k : Int)), some (ze (most : Int)), o4, o5, o6] M = some (.nx [some (.dat (shD p k d l)), some (.dat (.tuple (qs.map qD))), some (ze (k : Int)), some (ze (most : Int)), o4', o5', o6'] M)) := by
      intro o6' o5' e hn
      rw [List.map_cons]
      rcases rr_loop hP pb hk1 hk hd h t1 hm ht (l := l) (M := M) gs (fun g' hg' => hg g' (List.mem_cons_of_mem _ hg')) (some (.dat (.tuple (g.map qD)))) o5' o6' with q | ⟨q1, p4, p5, p6, q2⟩
      · exact .inl (loop_nx rfl e q)
      · refine .inr ⟨fun g' hg' => ?_, p4, p5, p6, loop_nx rfl e q2⟩
        rcases List.mem_cons.mp hg' with z | z
        · rw [z]; exact hn
        · exact q1 g' z
    have s5 : ∀ x : PyData, F_read_back [.dat (shD p k d l), .dat (.tuple (g.map qD))] M = some (.dat x, M) → sAsg (eCall F_read_back (aCons (eVar 0) (aCons (eVar 4) aNil))) (gNm 5) [some (.dat (shD p k d l)), some (.dat (.tuple (qs.map qD))), some (ze (k : Int)), some (ze (most : Int)), some (.dat (.tuple (g.map qD))), o5, o6] M = some (.nx [some (.dat (shD p k d l)), some (.dat (.tuple (qs.map qD))), some (ze (k : Int)), some (ze (most : Int)), some (.dat (.tuple (g.map qD))), some (.dat x), o6] M) := fun x e => sAsg_eq (eCall_eq (M1 := M) (xs := [.dat (shD p k d l), .dat (.tuple (g.map qD))]) rfl e) rfl
    by_cases ok : tabOkB k d (clT d C) = true
    · rw [if_pos ok] at eb
      have U1 := clT_tab (by omega) hC ok
      have ko := keeping_ok pb (l := l) (k := k) hd (T := clT d C) (M := M) h.ln h.bx (v := .dat (.tuple (qs.map qD))) (.inl rfl)
      have len : fLen M (.dat (rD ((wrongR p d (clT d C) qs).map Prod.fst))) = some (ze ((wrongR p d (clT d C) qs).length : Int)) := by
        show some (ze ((((wrongR p d (clT d C) qs).map Prod.fst).map PyData.int).length : Int)) = _
        rw [List.length_map, List.length_map]
      have tst : bVal (eOp (lift2 dLe) (eCB (one fLen) (aCons (eVar 6) aNil)) (eVar 3)) [some (.dat (shD p k d l)), some (.dat (.tuple (qs.map qD))), some (ze (k : Int)), some (ze (most : Int)), some (.dat (.tuple (g.map qD))), some (.dat (tD d (clT d C))), some (.dat (rD ((wrongR p d (clT d C) qs).map Prod.fst)))] M = some (decide (((wrongR p d (clT d C) qs).length : Int) ≤ (most : Int)), M) := bVal_eq (eOp_eq (M1 := M) (M2 := M) (eCB_eq (M1 := M) (xs := [.dat (rD ((wrongR p d (clT d C) qs).map Prod.fst))]) rfl len) (y := ze (most : Int)) rfl l_le)
      have s6 : sAsg (eCall F_keeping_others (aCons (eVar 0) (aCons (eVar 5) (aCons (eVar 1) aNil)))) (gNm 6) [some (.dat (shD p k d l)), some (.dat (.tuple (qs.map qD))), some (ze (k : Int)), some (ze (most : Int)), some (.dat (.tuple (g.map qD))), some (.dat (tD d (clT d C))), o6] M = some (.nx [some (.dat (shD p k d l)), some (.dat (.tuple (qs.map qD))), some (ze (k : Int)), some (ze (most : Int)), some (.dat (.tuple (g.map qD))), some (.dat (tD d (clT d C))), some (.dat (rD ((wrongR p d (clT d C) qs).map Prod.fst)))] M) := sAsg_eq (eCall_eq (M1 := M) (xs := [.dat (shD p k d l), .dat (tD d (clT d C)), .dat (.tuple (qs.map qD))]) rfl ko) rfl
      by_cases hw : (wrongR p d (clT d C) qs).length ≤ most
      · rw [decide_eq_true (show ((wrongR p d (clT d C) qs).length : Int) ≤ (most : Int) by omega)] at tst
        have bk := both_kept p d T (clT d C) qs
        have hlen : k ≤ (qs.filter fun q => (q.2 == keptL p d T q.1) && (q.2 == keptL p d (clT d C) q.1)).length := by omega
        have hs : ((qs.filter fun q => (q.2 == keptL p d T q.1) && (q.2 == keptL p d (clT d C) q.1)).take k).Sublist qs := (List.take_sublist _ _).trans List.filter_sublist
        obtain ⟨e1, e2⟩ := tabs_one hP hk hd (h.sub hs) (by rw [List.length_take]; omega) t1 (fun q hq => by
          have := (List.mem_filter.mp (List.mem_of_mem_take hq)).2
          rw [Bool.and_eq_true] at this
          exact eq_of_beq this.1) U1 (fun q hq => by
          have := (List.mem_filter.mp (List.mem_of_mem_take hq)).2
          rw [Bool.and_eq_true] at this
          exact eq_of_beq this.2)
        have ew : wrongR p d (clT d C) qs = wrongR p d T qs := by
          unfold wrongR
          congr 1
          funext q
          rw [e2]
        left
        rw [List.map_cons]
        refine loop_out rfl ?_
        refine sSeq_nx (M1 := M) (s5 _ eb) (sIf_t (M1 := M) rfl (sSeq_nx (M1 := M) s6 (sIf_t (M1 := M) tst ?_)))
        rw [← ew, e1]
        exact sRet_eq (eTup_eq (xs := [.dat (tD d (clT d C)), .dat (rD ((wrongR p d (clT d C) qs).map Prod.fst))]) rfl rfl (show 2 ≤ 100000 by omega))
      · rw [decide_eq_false (show ¬ ((wrongR p d (clT d C) qs).length : Int) ≤ (most : Int) by omega)] at tst
        refine nx _ _ (sSeq_nx (M1 := M) (s5 _ eb) (sIf_t (M1 := M) rfl (sSeq_nx (M1 := M) s6 (sIf_f (M1 := M) tst rfl)))) fun hall => hw ?_
        obtain ⟨e1, e2⟩ := tabs_one hP hk hd (h.sub g1) g2 t1 hall U1 (fun q hq => by
          have hc := hT T t1 hall
          have := tabs_one hP hk hd (h.sub g1) g2 t1 hall t1 hall
          rw [hall q hq]
          unfold keptL
          refine List.map_congr_left fun c hcc => ?_
          congr 1
          refine List.map_congr_left fun r hr => ?_
          rw [List.mem_range] at hr hcc
          unfold clT
          rw [if_pos hr, hc r hr, List.getD_eq_getElem?_getD, List.getElem?_map, List.getElem?_range hcc]; rfl)
        have ew : wrongR p d (clT d C) qs = wrongR p d T qs := by
          unfold wrongR
          congr 1
          funext q
          rw [e2]
        rw [ew]; exact ht
    · rw [if_neg ok] at eb
      refine nx _ _ (sSeq_nx (M1 := M) (s5 _ eb) (sIf_f (M1 := M) rfl rfl)) fun hall => ok ?_
      have rb := read_back_is hP (l := l) hk hd (h.sub g1) g2 (M := M) t1 hall
      rw [rb] at eb
      injection eb with z
      injection z with z _
      injection z with z
      cases z
theorem right_kept (p : Int) (d : Nat) (T : Nat → Nat → Int) : ∀ qs : List (Int × List Int), (qs.filter fun q => q.2 == keptL p d T q.1).length + (wrongR p d T qs).length = qs.length
  | [] => rfl
  | q :: qs => by
    have ih := right_kept p d T qs
    unfold wrongR at ih ⊢
    cases h1 : q.2 == keptL p d T q.1 <;> simp only [List.filter_cons, h1, Bool.not_true, Bool.not_false, Bool.false_eq_true, if_true, if_false, List.length_cons] <;> omega
theorem read_right_is {p : Nat} (hP : PrP p) (pb : 11 ≤ (p : Int) ∧ (p : Int) ≤ 211) {l : Int} {k d : Nat} (hk1 : 1 ≤ k) (hk : k ≤ d) (hd : d ≤ 5) {qs : List (Int × List Int)} (h : Prs p d qs) (hq : qs.length ≤ 12) (hkq : k ≤ qs.length) {T : Nat → Nat → Int} (t1 : Tab p k d T) (ht : (wrongR p d T qs).length ≤ (qs.length - k) / 2) {M : Mem} :
    F_read_right [.dat (shD p k d l), .dat (.tuple (qs.map qD))] M = some (.dat (.tuple [tD d T, rD ((wrongR p d T qs).map Prod.fst)]), M) := by
  have gr := groups_ok (M := M) 10 k (qs.map qD) (.dat (.tuple (qs.map qD))) (by omega) (by omega) (by rw [List.length_map]; exact hq) (.inl rfl)
  rw [grp_map, List.map_map] at gr
  have len : fLen M (.dat (.tuple (qs.map qD))) = some (ze (qs.length : Int)) := by
    show some (ze ((qs.map qD).length : Int)) = _
    rw [List.length_map]
  have dv : ((qs.length : Int) - (k : Int)) / 2 = (((qs.length - k) / 2 : Nat) : Int) := by omega
  have hloop : loop (gNm 4) Lb_read_right_3_1 ((grp k qs).map fun g => PyData.tuple (g.map qD)) [some (.dat (shD p k d l)), some (.dat (.tuple (qs.map qD))), some (ze (k : Int)), some (ze (((qs.length - k) / 2 : Nat) : Int)), none, none, none] M = some (.rt (.dat (.tuple [tD d T, rD ((wrongR p d T qs).map Prod.fst)])) M) := by
    rcases rr_loop hP pb hk1 hk (by omega) h t1 (most := (qs.length - k) / 2) (by omega) ht (l := l) (M := M) (grp k qs) (fun g hg => grp_sub _ _ _ hg) none none none with q | ⟨q1, _⟩
    · exact q
    · exfalso
      have rk := right_kept p d T qs
      have hR : k ≤ (qs.filter fun q => q.2 == keptL p d T q.1).length := by omega
      have hsub : ((qs.filter fun q => q.2 == keptL p d T q.1).take k).Sublist qs := (List.take_sublist _ _).trans List.filter_sublist
      have hlen : ((qs.filter fun q => q.2 == keptL p d T q.1).take k).length = k := by rw [List.length_take]; omega
      have hmem := grp_all _ _ hsub
      rw [hlen] at hmem
      exact q1 _ hmem fun q hq' => eq_of_beq (List.mem_filter.mp (List.mem_of_mem_take hq')).2
  refine mkF_rtL (M1 := M) rfl ?_
  refine sSeq_nx (M1 := M) (ρ1 := [some (.dat (shD p k d l)), some (.dat (.tuple (qs.map qD))), some (ze (k : Int)), none, none, none, none]) rfl ?_
  refine sSeq_nx (M1 := M) (ρ1 := [some (.dat (shD p k d l)), some (.dat (.tuple (qs.map qD))), some (ze (k : Int)), some (ze (((qs.length - k) / 2 : Nat) : Int)), none, none, none]) ?_ ?_
  · rw [← dv]
    exact sAsg_eq (eOp_eq (M1 := M) (M2 := M) (eOp_eq (M1 := M) (M2 := M) (eCB_eq (M1 := M) (xs := [.dat (.tuple (qs.map qD))]) rfl len) (y := ze (k : Int)) rfl l_sub) (y := ze 2) rfl (l_div (by omega) (by omega))) rfl
  · exact sSeq_rt (sFor_eq (M1 := M) (iDat_l (eCall_eq (M1 := M) (xs := [.dat (.tuple (qs.map qD)), ze (k : Int)]) rfl gr)) hloop)

/-! ### two_read -/
theorem kept_nil {p x : Int} {d : Nat} : keptL p d (fun _ _ => 0) x = List.replicate d 0 := by
  unfold keptL
  rw [show (fun c => hor p x (colL d (fun _ _ => 0) c)) = fun _ : Nat => (0 : Int) from funext fun c => by
    rw [hor_ev, ev_sm, show (fun r => (fun _ _ => (0 : Int)) r c * x ^ r) = fun _ : Nat => (0 : Int) from funext fun r => Int.zero_mul _, sm_zero]; rfl, List.map_const', List.length_range]
theorem zero_table {p : Int} (hp : 0 < p) (k d : Nat) : Tab p k d (fun _ _ => 0) := ⟨fun _ _ => ⟨Int.le_refl 0, hp⟩, fun _ _ _ _ => rfl, fun _ _ _ _ _ _ => rfl⟩
theorem al_table {p : Int} (hp : 0 < p) {k d : Nat} {V : List Int} (h : V.length ≤ k) : Tab p k d (alT p V) := ⟨al_b hp V, fun r c _ _ => al_sym p V r c, fun r c h1 _ h3 _ => al_0 (by omega)⟩
/-- what two_read tells: the houses with their rows -/
abbrev twQ (p : Int) (d m : Nat) (V : List Int) (xs : List Int) : List (Int × List Int) := (xs.take m).map (fun x => (x, List.replicate d 0)) ++ (xs.drop m).map fun x => (x, keptL p d (alT p V) x)
theorem twQ_fst {p : Int} {d m : Nat} {V xs : List Int} : (twQ p d m V xs).map Prod.fst = xs := by
  unfold twQ
  rw [List.map_append, List.map_map, List.map_map]
  have e1 : (Prod.fst ∘ fun x : Int => (x, List.replicate d (0 : Int))) = id := rfl
  have e2 : (Prod.fst ∘ fun x : Int => (x, keptL p d (alT p V) x)) = id := rfl
  rw [e1, e2, List.map_id, List.map_id, List.take_append_drop]
theorem zip_split : ∀ qs : List (Int × List Int), zipD ((qs.map Prod.fst).map PyData.int) ((qs.map Prod.snd).map rD) = qs.map qD
  | [] => rfl
  | q :: qs => by
    have ih := zip_split qs
    unfold zipD at ih ⊢
    rw [List.map_cons, List.map_cons, List.map_cons, List.map_cons, List.zip_cons_cons, List.map_cons, ih, List.map_cons]
theorem len_split {p : Int} {d m : Nat} {V xs : List Int} : (twQ p d m V xs).length = xs.length := by
  have := congrArg List.length (twQ_fst (p := p) (d := d) (m := m) (V := V) (xs := xs))
  rwa [List.length_map] at this
theorem filt_part {α β : Type} (f : α → β) (t : β → Bool) (h : ∀ a, t (f a) = false) : ∀ l : List α, ((l.map f).filter t) = []
  | [] => rfl
  | a :: l => by rw [List.map_cons, List.filter_cons, if_neg (by rw [h a]; decide), filt_part f t h l]
theorem wrong_zero {p : Int} {d m : Nat} {V xs : List Int} : (wrongR p d (fun _ _ => 0) (twQ p d m V xs)).length ≤ xs.length - m := by
  unfold wrongR twQ
  rw [List.filter_append, filt_part _ _ (fun x => by dsimp only; rw [kept_nil]; simp), List.nil_append]
  refine Nat.le_trans (List.length_filter_le _ _) ?_
  rw [List.length_map, List.length_drop]
  exact Nat.le_refl _
theorem filt_mem {α β : Type} (f : α → β) (t : β → Bool) : ∀ l : List α, (∀ a ∈ l, t (f a) = false) → ((l.map f).filter t) = []
  | [], _ => rfl
  | a :: l, h => by rw [List.map_cons, List.filter_cons, if_neg (by rw [h a List.mem_cons_self]; decide), filt_mem f t l fun x hx => h x (List.mem_cons_of_mem _ hx)]
theorem wrong_al {p : Nat} {d m j : Nat} {V xs : List Int} (hV : Vn p (xs.take j) V) (hd : V.length ≤ d) (hj : j ≤ m) (hm : m ≤ xs.length) : (wrongR p d (alT p V) (twQ p d m V xs)).length ≤ m - j := by
  unfold wrongR twQ
  rw [List.filter_append, filt_part (fun x => (x, keptL (p : Int) d (alT p V) x)) _ (fun x => by simp), List.append_nil]
  have e : xs.take m = xs.take j ++ (xs.drop j).take (m - j) := by
    rw [← List.take_append_drop j (xs.take m), List.take_take, Nat.min_eq_left hj, List.drop_take]
  rw [e, List.map_append, List.filter_append, filt_mem _ _ (xs.take j) (fun x hx => by
    dsimp only
    rw [al_nought hV hd hx]; simp), List.nil_append]
  refine Nat.le_trans (List.length_filter_le _ _) ?_
  rw [List.length_map, List.length_take]
  exact Nat.min_le_left _ _
theorem two_read_ok {p : Nat} (hP : PrP p) (pb : 11 ≤ (p : Int) ∧ (p : Int) ≤ 211) {l : Int} {k d b : Nat} (k1 : 1 ≤ k) (hd : d ≤ 30) {xs : List Int} {M : Mem} (hb : b ≤ xs.length) (xl : xs.length ≤ 20) (xb : ∀ z ∈ xs, 0 ≤ z ∧ z < (p : Int)) :
    ∃ V, Vn p (xs.take (k - 1)) V ∧ (∃ w, V = w ++ [1]) ∧ F_two_read [.dat (shD p k d l), .dat (rD xs), ze (b : Int)] M = some (.dat (.tuple [.str (Str.ofString "two"), tD d (fun _ _ => 0), tD d (alT p V), .tuple (((twQ p d (xs.length - b) V xs).map Prod.snd).map rD)]), M) := by
  obtain ⟨V, hV, hL, ea⟩ := alike_ok (k := k) (l := l) (d := d) (D := d) hP rfl (by omega) (xs := xs.take (k - 1)) (M := M) (by rw [List.length_take]; omega) (fun z hz => xb z (List.mem_of_mem_take hz))
  refine ⟨V, hV, hL, ?_⟩
  have r1 := l_rep (M := M) (z := 0) (k := (d : Int)) (by omega) (by omega)
  have r2 := l_repT (M := M) (x := rD (List.replicate d 0)) (k := (d : Int)) (by omega) (by omega)
  rw [Int.toNat_natCast] at r1 r2
  rw [zero_tab] at r2
  have c1 : fSl M (.dat (rD xs)) none (some ((k : Int) - 1)) = some (.dat (rD (xs.take (k - 1)))) := by
    show some (SV.dat (.tuple (cutD (xs.map PyData.int) none (some ((k : Int) - 1))))) = _
    rw [show (k : Int) - 1 = ((k - 1 : Nat) : Int) by omega, cut_take, ← List.map_take]
  have lenx : fLen M (.dat (rD xs)) = some (ze (xs.length : Int)) := by
    show some (ze ((xs.map PyData.int).length : Int)) = _
    rw [List.length_map]
  have mm : ((xs.length : Int)) - (b : Int) = ((xs.length - b : Nat) : Int) := by omega
  generalize hm : xs.length - b = m at *
  have c2 : fSl M (.dat (rD xs)) none (some (m : Int)) = some (.dat (rD (xs.take m))) := by
    show some (SV.dat (.tuple (cutD (xs.map PyData.int) none (some (m : Int))))) = _
    rw [cut_take, ← List.map_take]
  have c3 : fSl M (.dat (rD xs)) (some (m : Int)) none = some (.dat (rD (xs.drop m))) := by
    show some (SV.dat (.tuple (cutD (xs.map PyData.int) (some (m : Int)) none))) = _
    rw [cut_drop, ← List.map_drop]
  have sub : ∀ ρ : Rho, ρ[1]? = some (some (.dat (rD xs))) → ρ[2]? = some (some (ze (b : Int))) → eOp (lift2 dSub) (eCB (one fLen) (aCons (eVar 1) aNil)) (eVar 2) ρ M = some (ze (m : Int), M) := by
    intro ρ h1 h2
    rw [← mm]
    exact eOp_eq (M1 := M) (M2 := M) (eCB_eq (M1 := M) (xs := [.dat (rD xs)]) (aCons_eq (M1 := M) (eVar_eq h1) rfl) lenx) (eVar_eq h2) l_sub
  have part : ∀ (T : Nat → Nat → Int) (i : Nat) (it : SI) (ys : List Int) (ρ : Rho), (∀ v, (ρ.set 10 v)[0]? = some (some (.dat (shD p k d l)))) → (∀ v, (ρ.set 10 v)[i]? = some (some (.dat (tD d T)))) → ρ.length = 11 → wipeR ρ [10] = ρ → ys.length ≤ 20 → (∀ z ∈ ys, 0 ≤ z ∧ z < (p : Int)) → it ρ M = some (ys.map PyData.int, M) → eLc it (gNm 10) bYes (eCall F_keeps_of (aCons (eVar 0) (aCons (eVar i) (aCons (eVar 10) aNil)))) [10] ρ M = some (.dat (.list (ys.map fun x => rD (keptL p d T x))), M) := by
    intro T i it ys ρ h0 hi hlen hw yl yb hit
    have lc := lcL_map (g := gNm 10) (ρ := ρ) (M := M) (el := eCall F_keeps_of (aCons (eVar 0) (aCons (eVar i) (aCons (eVar 10) aNil)))) (f := fun e => match e with | .int x => rD (keptL p d T x) | _ => .none) (ys.map PyData.int) (by
      intro e he
      obtain ⟨x, hx, rfl⟩ := List.mem_map.mp he
      have bx := yb x hx
      have k1 := keeps_ok (p := p) (x := x) (k := k) (l := l) (d := d) (T := T) (M := M) (by omega) (by omega) (by omega)
      have g10 : (ρ.set 10 (some (ze x)))[10]? = some (some (ze x)) := by rw [List.getElem?_set]; simp [hlen]
      exact ⟨ρ.set 10 (some (ze x)), rfl, eCall_eq (M1 := M) (xs := [.dat (shD p k d l), .dat (tD d T), ze x]) (aCons_eq (M1 := M) (eVar_eq (h0 _)) (aCons_eq (M1 := M) (eVar_eq (hi _)) (aCons_eq (M1 := M) (eVar_eq g10) rfl))) k1⟩)
    rw [List.map_map] at lc
    exact eLc_eq (vs := [10]) (M1 := M) hit (by rw [List.length_map]; omega) (by rw [hw]; exact lc)
  have p1 := part (fun _ _ => 0) 7 (iDat (eSl fSl (eVar 1) oNone (oSome (eOp (lift2 dSub) (eCB (one fLen) (aCons (eVar 1) aNil)) (eVar 2))))) (xs.take m) [some (.dat (shD p k d l)), some (.dat (rD xs)), some (ze (b : Int)), some (ze p), some (ze (k : Int)), some (ze (d : Int)), some (ze l), some (.dat (tD d (fun _ _ => 0))), some (.dat (tD d (alT p V))), none, none] (fun _ => rfl) (fun _ => rfl) rfl rfl (by rw [List.length_take]; omega) (fun z hz => xb z (List.mem_of_mem_take hz)) (iDat_t (eSl_eq (M1 := M) rfl rfl (oSome_eq (M1 := M) (sub _ rfl rfl)) c2))
  have p2 := part (alT p V) 8 (iDat (eSl fSl (eVar 1) (oSome (eOp (lift2 dSub) (eCB (one fLen) (aCons (eVar 1) aNil)) (eVar 2))) oNone)) (xs.drop m) [some (.dat (shD p k d l)), some (.dat (rD xs)), some (ze (b : Int)), some (ze p), some (ze (k : Int)), some (ze (d : Int)), some (ze l), some (.dat (tD d (fun _ _ => 0))), some (.dat (tD d (alT p V))), none, none] (fun _ => rfl) (fun _ => rfl) rfl rfl (by rw [List.length_drop]; omega) (fun z hz => xb z (List.mem_of_mem_drop hz)) (iDat_t (eSl_eq (M1 := M) rfl (oSome_eq (M1 := M) (sub _ rfl rfl)) rfl c3))
  have ad : lift2 dAdd M (.dat (.list ((xs.take m).map fun x => rD (keptL p d (fun _ _ => 0) x)))) (.dat (.list ((xs.drop m).map fun x => rD (keptL p d (alT p V) x)))) = some (.dat (.list (((twQ p d m V xs).map Prod.snd).map rD))) := by
    have e : ((twQ p d m V xs).map Prod.snd).map rD = ((xs.take m).map fun x => rD (keptL p d (fun _ _ => 0) x)) ++ (xs.drop m).map fun x => rD (keptL p d (alT p V) x) := by
      unfold twQ
      rw [List.map_append, List.map_append, List.map_map, List.map_map, List.map_map, List.map_map]
      congr 1
      refine List.map_congr_left fun x _ => ?_
      show rD (List.replicate d 0) = _
      rw [kept_nil]
    rw [e]
    exact l_addL (Nat.ble_eq_true_of_le (by rw [List.length_map, List.length_map, List.length_take, List.length_drop]; omega))
  refine mkF_rtL (M1 := M) rfl ?_
  refine sSeq_nx (M1 := M) (ρ1 := [some (.dat (shD p k d l)), some (.dat (rD xs)), some (ze (b : Int)), some (ze p), some (ze (k : Int)), some (ze (d : Int)), some (ze l), none, none, none, none]) rfl ?_
  refine sSeq_nx (M1 := M) (ρ1 := [some (.dat (shD p k d l)), some (.dat (rD xs)), some (ze (b : Int)), some (ze p), some (ze (k : Int)), some (ze (d : Int)), some (ze l), some (.dat (tD d (fun _ _ => 0))), none, none, none]) (sAsg_eq (eOp_eq (M1 := M) (M2 := M) (x := .dat (.tuple [rD (List.replicate d 0)])) (eTup_eq (xs := [.dat (rD (List.replicate d 0))]) (aCons_eq (M1 := M) (eOp_eq (M1 := M) (M2 := M) (x := .dat (.tuple [.int 0])) (y := ze (d : Int)) rfl rfl r1) rfl) rfl (show 1 ≤ 100000 by omega)) (y := ze (d : Int)) rfl r2) rfl) ?_
  refine sSeq_nx (M1 := M) (ρ1 := [some (.dat (shD p k d l)), some (.dat (rD xs)), some (ze (b : Int)), some (ze p), some (ze (k : Int)), some (ze (d : Int)), some (ze l), some (.dat (tD d (fun _ _ => 0))), some (.dat (tD d (alT p V))), none, none]) (sAsg_eq (eCall_eq (M1 := M) (xs := [.dat (shD p k d l), .dat (rD (xs.take (k - 1)))]) (aCons_eq (M1 := M) rfl (aCons_eq (M1 := M) (eSl_eq (M1 := M) rfl rfl (oSome_eq (M1 := M) (eOp_eq (M1 := M) (M2 := M) (x := ze (k : Int)) (y := ze 1) rfl rfl l_sub)) c1) rfl)) ea) rfl) ?_
  refine sSeq_nx (M1 := M) (ρ1 := [some (.dat (shD p k d l)), some (.dat (rD xs)), some (ze (b : Int)), some (ze p), some (ze (k : Int)), some (ze (d : Int)), some (ze l), some (.dat (tD d (fun _ _ => 0))), some (.dat (tD d (alT p V))), some (.dat (.list (((twQ p d m V xs).map Prod.snd).map rD))), none]) (sAsg_eq (eOp_eq (M1 := M) (M2 := M) p1 p2 ad) rfl) ?_
  exact sRet_eq (eTup_eq (xs := [.dat (.str (Str.ofString "two")), .dat (tD d (fun _ _ => 0)), .dat (tD d (alT p V)), .dat (.tuple (((twQ p d m V xs).map Prod.snd).map rD))]) rfl rfl (show 4 ≤ 100000 by omega))

end Lk38

namespace Lk38
open PySem Sm L2
local macro_rules
  | `(tactic| walk_at "le") => `(tactic| ((try simp only [List.length_cons, List.length_nil, List.length_append, List.length_map]); omega))
local macro_rules
  | `(tactic| walk_at "smb") => `(tactic| first
    | with_reducible assumption
    | with_reducible rfl
    | assumption
    | rfl
    | (simp only [decide_eq_true_eq, decide_eq_false_iff_not, beq_iff_eq, Bool.not_eq_true', Bool.not_eq_false', beq_eq_false_iff_ne, Bool.and_eq_true, Bool.or_eq_true, Bool.not_eq_true, Bool.not_eq_false, ne_eq, Bool.and_eq_false_imp, Bool.or_eq_false_iff]; omega))
local macro_rules
  | `(tactic| walk_at "smf") => `(tactic| fail "no call")
local macro_rules
  | `(tactic| walk_at "sml") => `(tactic| first
    | with_reducible assumption
    | with_reducible exact l_add
    | with_reducible exact l_sub
    | with_reducible exact l_eq
    | with_reducible exact l_ne
    | with_reducible exact l_lt
    | with_reducible exact l_le
    | with_reducible exact l_gt
    | with_reducible exact l_ge
    | with_reducible exact l_eqSS
    | with_reducible exact l_neSS
    | with_reducible exact l_eqBS
    | with_reducible exact l_neBS
    | with_reducible exact l_eqB
    | with_reducible exact l_neB
    | with_reducible exact l_eqS
    | with_reducible exact l_neS
    | with_reducible exact l_neg
    | with_reducible exact isi_int _
    | with_reducible exact isi_bool _
    | with_reducible exact isi_tup _
    | with_reducible exact l_lenL
    | with_reducible exact l_lenT
    | with_reducible exact l_slL
    | with_reducible exact l_slT
    | ((with_reducible apply l_mod); (walk_at "smo"))
    | ((with_reducible apply l_mul); (walk_at "smo"))
    | ((with_reducible apply l_div); (walk_at "smo"); (walk_at "smo"))
    | ((with_reducible apply l_addT); rfl)
    | ((with_reducible apply l_addL); rfl)
    | ((with_reducible apply l_ixL); first | assumption | rfl)
    | ((with_reducible apply l_ixT); first | assumption | rfl)
    | ((with_reducible apply one_eq); (walk_at "sml"))
    | with_reducible assumption
    | rfl)
local macro_rules
  | `(tactic| walk_at "smo") => `(tactic| first | assumption | omega)
local macro_rules
  | `(tactic| walk_at "sm") => `(tactic| first
    | with_reducible assumption
    | with_reducible exact aNil_eq
    | with_reducible exact eC_eq
    | with_reducible exact sNext_eq
    | with_reducible exact eD0_eq
    | ((with_reducible apply eD1_eq); (walk_at "sm"))
    | ((with_reducible apply eC_e); rfl)
    | with_reducible exact oNone_eq
    | ((with_reducible apply eVar_eq); rfl)
    | ((with_reducible apply aCons_eq); (walk_at "sm"); (walk_at "sm"))
    | ((with_reducible apply eOp_eq); (walk_at "sm"); (walk_at "sm"); (walk_at "sml"))
    | ((with_reducible apply eUn_eq); (walk_at "sm"); (walk_at "sml"))
    | ((with_reducible apply eCB_eq); (walk_at "sm"); (walk_at "sml"))
    | ((with_reducible apply eCall_eq); (walk_at "sm"); (first | with_reducible assumption | walk_at "smf"))
    | ((with_reducible apply eTup_e); (walk_at "sm"); rfl; rfl)
    | ((with_reducible apply eLst_e); (walk_at "sm"); rfl; rfl)
    | ((with_reducible apply oSome_eq); (walk_at "sm"))
    | ((with_reducible apply eSl_eq); (walk_at "sm"); (walk_at "sm"); (walk_at "sm"); (walk_at "sml"))
    | ((with_reducible apply eNot_eq); (walk_at "sm"))
    | ((with_reducible apply bNot_eq); (walk_at "sm"))
    | ((with_reducible apply bVal_eq); (walk_at "sm"))
    | ((with_reducible apply bTru_b); (walk_at "sm"))
    | ((with_reducible apply eChain_e); (walk_at "sm"); (walk_at "sm"); (walk_at "sml"); (walk_at "sm"); (walk_at "sml"))
    | ((with_reducible apply eChain3_e); (walk_at "sm"); (walk_at "sm"); (walk_at "sml"); (walk_at "sm"); (walk_at "sml"); (walk_at "sm"); (walk_at "sml"))
    | ((with_reducible apply bOr_e); (walk_at "sm"); (first | ((apply ite_T); (walk_at "smb"); rfl) | ((apply ite_F); (walk_at "smb"); (walk_at "sm")) | ((apply or_gen); (walk_at "sm"))))
    | ((with_reducible apply bAnd_e); (walk_at "sm"); (first | ((apply ite_F); (walk_at "smb"); rfl) | ((apply ite_T); (walk_at "smb"); (walk_at "sm")) | ((apply and_gen); (walk_at "sm"))))
    | ((with_reducible apply eOr_e); (walk_at "sm"); (first | ((apply ite_T); (walk_at "smb"); rfl) | ((apply ite_F); (walk_at "smb"); (walk_at "sm")) | ((apply eor_gen); (walk_at "sm"))))
    | ((with_reducible apply eAnd_e); (walk_at "sm"); (first | ((apply ite_F); (walk_at "smb"); rfl) | ((apply ite_T); (walk_at "smb"); (walk_at "sm")) | ((apply eand_gen); (walk_at "sm"))))
    | ((with_reducible apply eIf_e); (walk_at "sm"); (first | ((apply ite_T); (walk_at "smb"); (walk_at "sm")) | ((apply ite_F); (walk_at "smb"); (walk_at "sm"))))
    | ((with_reducible apply sIf_e); (walk_at "sm"); (first | ((apply ite_T); (walk_at "smb"); (walk_at "sm")) | ((apply ite_F); (walk_at "smb"); (walk_at "sm"))))
    | ((with_reducible apply sSeq_e); (walk_at "sm"); (first | with_reducible exact seqK_rt | ((with_reducible apply seqK_nx); (walk_at "sm")) | ((with_reducible refine Eq.trans seqK_rt ?_); rfl)))
    | ((with_reducible apply sRet_eq); (walk_at "sm"))
    | ((with_reducible apply sAsg_eq); (walk_at "sm"); (walk_at "smg"))
    | with_reducible assumption
    | walk_at "smx")
local macro_rules
  | `(tactic| walk_at "smx") => `(tactic| fail "no step")
local macro_rules
  | `(tactic| walk_at "smg") => `(tactic| first
    | ((with_reducible apply gNm_e); ((dsimp only [List.set]) <;> rfl))
    | ((with_reducible apply gTp_e); rfl; ((dsimp only [setAll, List.set]) <;> rfl))
    | rfl)

/-! ### what two_fitting tells -/
theorem hor_zeros (p x : Int) (n : Nat) : hor p x (List.replicate n 0) = 0 := by
  rw [hor_ev]
  have := ev_zeros x [] n
  rw [List.nil_append] at this
  rw [this]; simp [ev]
theorem noughts {p : Nat} (hp : PrP p) {M : Mem} {v1 v2 v3 v4 : SV} : ∀ (ys done van : List Int) (o : Option SV), Vn p done van → done.length + ys.length ≤ 900 → (∀ y ∈ ys, 0 ≤ y ∧ y < (p : Int)) →
    ∃ van' o', loop (gNm 6) (sAsg (eCall F_with_nought_at (aCons (eVar 0) (aCons (eVar 5) (aCons (eVar 6) aNil)))) (gNm 5)) (ys.map PyData.int) [some (ze p), some v1, some v2, some v3, some v4, some (.dat (.list (van.map PyData.int))), o, none] M = some (.nx [some (ze p), some v1, some v2, some v3, some v4, some (.dat (.list (van'.map PyData.int))), o', none] M) ∧ Vn p (done ++ ys) van'
  | [], done, van, o, h, _, _ => ⟨van, o, rfl, by rw [List.append_nil]; exact h⟩
  | y :: ys, done, van, o, h, hl, hy => by
    have hp1 := hp.1
    have hp2 := hp.2.1
    have h0 := hy y List.mem_cons_self
    rw [List.length_cons] at hl
    obtain ⟨van', o', e, h'⟩ := noughts hp (M := M) (v1 := v1) (v2 := v2) (v3 := v3) (v4 := v4) ys (done ++ [y]) (plusL p (-y) (0 :: van) (van ++ [0])) (some (ze y)) (h.step hp y) (by rw [List.length_append, List.length_singleton]; omega) (fun z hz => hy z (List.mem_cons_of_mem _ hz))
    refine ⟨van', o', ?_, by rw [List.append_assoc] at h'; exact h'⟩
    have n := nought_ok (p := p) (x := y) (van := van) (M := M) (by omega) (by omega) (by rw [h.lv]; omega)
    rw [List.map_cons]
    exact loop_nx (M1 := M) (M2 := M) rfl (sAsg_eq (M1 := M) (eCall_eq (M1 := M) (xs := [ze p, .dat (.list (van.map PyData.int)), ze y]) rfl n) rfl) e
theorem worths {p : Nat} {M : Mem} {v : SV} {row ys : List Int} {ρ ρ0 : Rho} {it : SI} {j : Nat} (hp : 1 < p) (hr : v = .dat (.tuple (row.map PyData.int)) ∨ v = .dat (.list (row.map PyData.int))) (hj : j < 6) (h0 : ρ0[0]? = some (some (ze p))) (hv : ρ0[j]? = some (some v)) (h6 : 6 < ρ0.length) (hl : ys.length ≤ 1000) (hy : ∀ y ∈ ys, 0 ≤ y ∧ y < 1000) (hi : it ρ M = some (ys.map PyData.int, M)) (hw : wipeR ρ [6] = ρ0) :
    eLc it (gNm 6) bYes (eCall F_worth_at (aCons (eVar 0) (aCons (eVar j) (aCons (eVar 6) aNil)))) [6] ρ M = some (.dat (.list ((ys.map fun y => hor p y row).map PyData.int)), M) := by
  have lc := lcL_map (g := gNm 6) (ρ := ρ0) (M := M) (el := eCall F_worth_at (aCons (eVar 0) (aCons (eVar j) (aCons (eVar 6) aNil)))) (f := fun d => match d with | .int y => .int (hor p y row) | _ => .none) (ys.map PyData.int) (by
    intro d hd
    obtain ⟨y, hy', rfl⟩ := List.mem_map.mp hd
    have h := hy y hy'
    refine ⟨ρ0.set 6 (some (ze y)), rfl, eCall_eq (M1 := M) (xs := [ze p, v, ze y]) (aCons_eq (M1 := M) (eVar_eq ?_) (aCons_eq (M1 := M) (eVar_eq ?_) (aCons_eq (M1 := M) (eVar_eq ?_) rfl))) ?_⟩
    · rw [List.getElem?_set_ne (by omega)]; exact h0
    · rw [List.getElem?_set_ne (by omega)]; exact hv
    · rw [List.getElem?_set_self h6]
    · rcases hr with rfl | rfl
      · exact worth_ok (by omega) (by omega)
      · exact worth_okL (by omega) (by omega))
  rw [List.map_map] at lc
  refine eLc_eq (M1 := M) hi (by rw [List.length_map]; omega) ?_
  rw [hw, lc, List.map_map]; rfl
theorem two_fitting_ok {p : Nat} (hp : PrP p) {xs : List Int} {b : Nat} {M : Mem} (hx : ∀ x ∈ xs, 0 ≤ x ∧ x < (p : Int)) (hl : xs.length ≤ 20) (hb : 1 ≤ b) (hb2 : 2 * b ≤ xs.length) :
    ∃ van, Vn p (xs.take (xs.length - 2 * b)) van ∧ F_two_fitting [ze p, .dat (rD xs), ze (b : Int)] M = some (.dat (.tuple [.str (Str.ofString "two"), rD (List.replicate (xs.length - 2 * b + 1) 0), rD van, rD ((xs.take (xs.length - b)).map (fun _ => 0) ++ (xs.drop (xs.length - b)).map (fun x => hor p x van))]), M) := by
  have hp1 := hp.1
  have hp2 := hp.2.1
  generalize hm : xs.length - 2 * b = m
  have tk : ∀ y ∈ xs.take m, 0 ≤ y ∧ y < (p : Int) := fun y hy => hx y (List.mem_of_mem_take hy)
  obtain ⟨van, o', e4, hv⟩ := noughts hp (M := M) (v1 := .dat (rD xs)) (v2 := ze b) (v3 := ze ((m + 1 : Nat) : Int)) (v4 := .dat (rD (List.replicate (m + 1) 0))) (xs.take m) [] [1] none (Vn.nil hp) (by rw [List.length_nil, List.length_take]; omega) tk
  rw [List.nil_append] at hv
  refine ⟨van, hv, ?_⟩
  have len : fLen M (.dat (rD xs)) = some (ze (xs.length : Int)) := by
    show some (ze ((xs.map PyData.int).length : Int)) = _
    rw [List.length_map]
  have fm : F_fitting_many [.dat (rD xs), ze (b : Int)] M = some (ze ((m + 1 : Nat) : Int), M) := by
    refine mkF_rtL (M1 := M) rfl ?_
    rw [show ((m + 1 : Nat) : Int) = (xs.length : Int) - 2 * (b : Int) + 1 by omega]
    show B_fitting_many [some (.dat (rD xs)), some (ze (b : Int))] M = _
    generalize SV.dat (rD xs) = X at *
    walk_at "sm"
  have ml : lift2 dMul M (.dat (.tuple [.int 0])) (ze ((m + 1 : Nat) : Int)) = some (.dat (rD (List.replicate (m + 1) 0))) := by
    simp only [lift2, dMul]
    rw [if_pos (by refine ⟨by simp, by omega, by omega, by simp⟩)]
    simp only [Int.toNat_natCast, Option.bind_some]
    rw [rD, List.map_replicate]
    congr 3
    have : ∀ n : Nat, (List.replicate n [PyData.int 0]).flatten = List.replicate n (PyData.int 0) := by
      intro n
      induction n with
      | zero => rfl
      | succ n ih => rw [List.replicate_succ, List.flatten_cons, ih, List.replicate_succ]; rfl
    exact this (m + 1)
  have c4 : iDat (eSl fSl (eVar 1) oNone (oSome (eOp (lift2 dSub) (eVar 3) (eC (.int 1))))) [some (ze p), some (.dat (rD xs)), some (ze b), some (ze ((m + 1 : Nat) : Int)), some (.dat (rD (List.replicate (m + 1) 0))), some (.dat (.list ([1].map PyData.int))), none, none] M = some ((xs.take m).map PyData.int, M) := by
    refine iDat_t (eSl_eq (M1 := M) (M2 := M) (M3 := M) (x := .dat (rD xs)) (lo := none) (hi := some ((m : Nat) : Int)) rfl rfl (oSome_eq (eOp_eq (M1 := M) (M2 := M) (x := ze ((m + 1 : Nat) : Int)) (y := ze 1) rfl rfl (by rw [l_sub]; congr 3; omega))) ?_)
    show some (SV.dat (.tuple (cutD (xs.map PyData.int) none (some (m : Int))))) = _
    rw [cut_take, List.map_take]
  have sb : ∀ ρ : Rho, ρ[1]? = some (some (.dat (rD xs))) → ρ[2]? = some (some (ze b)) → eOp (lift2 dSub) (eCB (one fLen) (aCons (eVar 1) aNil)) (eVar 2) ρ M = some (ze ((xs.length - b : Nat) : Int), M) := by
    intro ρ h1 h2
    exact eOp_eq (M1 := M) (M2 := M) (x := ze (xs.length : Int)) (y := ze b) (eCB_eq (M1 := M) (xs := [.dat (rD xs)]) (aCons_eq (M1 := M) (eVar_eq h1) rfl) len) (eVar_eq h2) (by rw [l_sub]; congr 3; omega)
  have w1 := worths (p := p) (M := M) (row := List.replicate (m + 1) 0) (ys := xs.take (xs.length - b)) (ρ := [some (ze p), some (.dat (rD xs)), some (ze b), some (ze ((m + 1 : Nat) : Int)), some (.dat (rD (List.replicate (m + 1) 0))), some (.dat (.list (van.map PyData.int))), o', none]) (ρ0 := [some (ze p), some (.dat (rD xs)), some (ze b), some (ze ((m + 1 : Nat) : Int)), some (.dat (rD (List.replicate (m + 1) 0))), some (.dat (.list (van.map PyData.int))), none, none]) (j := 4) (it := iDat (eSl fSl (eVar 1) oNone (oSome (eOp (lift2 dSub) (eCB (one fLen) (aCons (eVar 1) aNil)) (eVar 2))))) (by omega) (.inl rfl) (by omega) rfl rfl (show 6 < 8 by omega) (by rw [List.length_take]; omega) (fun y hy => by have := hx y (List.mem_of_mem_take hy); omega) (by
    refine iDat_t (eSl_eq (M1 := M) (M2 := M) (M3 := M) (x := .dat (rD xs)) (lo := none) rfl rfl (oSome_eq (sb _ rfl rfl)) ?_)
    show some (SV.dat (.tuple (cutD (xs.map PyData.int) none (some ((xs.length - b : Nat) : Int))))) = _
    rw [cut_take, List.map_take]) rfl
  have w2 := worths (p := p) (M := M) (row := van) (ys := xs.drop (xs.length - b)) (ρ := [some (ze p), some (.dat (rD xs)), some (ze b), some (ze ((m + 1 : Nat) : Int)), some (.dat (rD (List.replicate (m + 1) 0))), some (.dat (.list (van.map PyData.int))), o', none]) (ρ0 := [some (ze p), some (.dat (rD xs)), some (ze b), some (ze ((m + 1 : Nat) : Int)), some (.dat (rD (List.replicate (m + 1) 0))), some (.dat (.list (van.map PyData.int))), none, none]) (j := 5) (it := iDat (eSl fSl (eVar 1) (oSome (eOp (lift2 dSub) (eCB (one fLen) (aCons (eVar 1) aNil)) (eVar 2))) oNone)) (by omega) (.inr rfl) (by omega) rfl rfl (show 6 < 8 by omega) (by rw [List.length_drop]; omega) (fun y hy => by have := hx y (List.mem_of_mem_drop hy); omega) (by
    refine iDat_t (eSl_eq (M1 := M) (M2 := M) (M3 := M) (x := .dat (rD xs)) (hi := none) rfl (oSome_eq (sb _ rfl rfl)) rfl ?_)
    show some (SV.dat (.tuple (cutD (xs.map PyData.int) (some ((xs.length - b : Nat) : Int)) none))) = _
    rw [cut_drop, List.map_drop]) rfl
  have z0 : ((xs.take (xs.length - b)).map fun y => hor p y (List.replicate (m + 1) 0)) = (xs.take (xs.length - b)).map (fun _ => 0) := List.map_congr_left fun y _ => hor_zeros p y (m + 1)
  rw [z0] at w1
  have ad := l_addL (M := M) (xs := ((xs.take (xs.length - b)).map (fun _ => (0 : Int))).map PyData.int) (ys := ((xs.drop (xs.length - b)).map fun x => hor p x van).map PyData.int) (Nat.ble_eq_true_of_le (by simp only [List.length_map, List.length_take, List.length_drop]; omega))
  rw [← List.map_append] at ad
  refine mkF_rtL (M1 := M) rfl ?_
  refine sSeq_nx (M1 := M) (ρ1 := [some (ze p), some (.dat (rD xs)), some (ze b), some (ze ((m + 1 : Nat) : Int)), none, none, none, none]) (sAsg_eq (M1 := M) (eCall_eq (M1 := M) (xs := [.dat (rD xs), ze (b : Int)]) rfl fm) rfl) ?_
  refine sSeq_nx (M1 := M) (ρ1 := [some (ze p), some (.dat (rD xs)), some (ze b), some (ze ((m + 1 : Nat) : Int)), some (.dat (rD (List.replicate (m + 1) 0))), none, none, none]) (sAsg_eq (M1 := M) (eOp_eq (M1 := M) (M2 := M) (x := .dat (.tuple [.int 0])) (y := ze ((m + 1 : Nat) : Int)) rfl rfl ml) rfl) ?_
  refine sSeq_nx (M1 := M) (ρ1 := [some (ze p), some (.dat (rD xs)), some (ze b), some (ze ((m + 1 : Nat) : Int)), some (.dat (rD (List.replicate (m + 1) 0))), some (.dat (.list ([1].map PyData.int))), none, none]) rfl ?_
  refine sSeq_nx (M1 := M) (ρ1 := [some (ze p), some (.dat (rD xs)), some (ze b), some (ze ((m + 1 : Nat) : Int)), some (.dat (rD (List.replicate (m + 1) 0))), some (.dat (.list (van.map PyData.int))), o', none]) (sFor_eq (M1 := M) c4 e4) ?_
  refine sSeq_nx (M1 := M) (sAsg_eq (M1 := M) (eOp_eq (M1 := M) (M2 := M) w1 w2 ad) rfl) ?_
  rfl

/-! ### what fitting must tell -/
abbrev six : List Int := [11, 13, 17, 31, 101, 211]
/-- what the pairs must be for the row and the liars to be told -/
def FitOk : Prop := ∀ (p : Int) (row : List Int) (qs : List (Int × Int)) (ls : List Int) (M : Mem), p ∈ six → 1 ≤ row.length → row.length ≤ qs.length → qs.length ≤ 8 → (∀ z ∈ row, 0 ≤ z ∧ z < p) → (qs.map Prod.fst).Pairwise (· < ·) → (∀ q ∈ qs, (0 ≤ q.1 ∧ q.1 < p) ∧ 0 ≤ q.2 ∧ q.2 < p) → ls = (qs.filter fun q => !(q.2 == hor p q.1 row)).map Prod.fst → 2 * ls.length ≤ qs.length - row.length →
  F_fitting [ze p, ze (row.length : Int), .dat (.tuple (qs.map pD))] M = some (.dat (.tuple [rD row, rD ls]), M)

/-! ### one row at most fits -/
theorem six_P : ∀ p ∈ [(11 : Int), 13, 17, 31, 101, 211], PrP p.toNat := by
  intro p hp
  refine prs12_P p ?_
  unfold prs12
  simp at hp ⊢; omega
abbrev wrong (p : Int) (row : List Int) (qs : List (Int × Int)) : List (Int × Int) := qs.filter fun q => !(q.2 == hor p q.1 row)
theorem both_right (p : Int) (a b : List Int) : ∀ qs : List (Int × Int), qs.length ≤ (qs.filter fun q => (q.2 == hor p q.1 a) && (q.2 == hor p q.1 b)).length + (wrong p a qs).length + (wrong p b qs).length
  | [] => Nat.zero_le _
  | q :: qs => by
    have ih := both_right p a b qs
    unfold wrong at ih ⊢
    simp only [List.filter_cons, List.length_cons]
    cases (q.2 == hor p q.1 a) <;> cases (q.2 == hor p q.1 b) <;> simp <;> omega
/-- two rows that are wrong at so few of the pairs together are one -/
theorem fit_one {p : Nat} (hP : PrP p) {a b : List Int} {qs : List (Int × Int)} (hl : a.length = b.length) (ha : ∀ z ∈ a, 0 ≤ z ∧ z < (p : Int)) (hb : ∀ z ∈ b, 0 ≤ z ∧ z < (p : Int)) (hq : (qs.map Prod.fst).Pairwise (· < ·)) (hx : ∀ q ∈ qs, 0 ≤ q.1 ∧ q.1 < (p : Int))
    (hw : (wrong p a qs).length + (wrong p b qs).length + a.length ≤ qs.length) : a = b := by
  have key := both_right p a b qs
  generalize hG : (qs.filter fun q => (q.2 == hor p q.1 a) && (q.2 == hor p q.1 b)) = G at key
  have sub : G.Sublist qs := by rw [← hG]; exact List.filter_sublist
  refine rows_unique hP (xs := G.map Prod.fst) hl (by rw [List.length_map]; omega) ha hb ?_ ?_
  · have h1 : (G.map Prod.fst).Pairwise (· < ·) := hq.sublist (sub.map _)
    refine List.Pairwise.imp_of_mem ?_ h1
    intro x y hx' hy' hxy
    obtain ⟨q, hqm, rfl⟩ := List.mem_map.mp hx'
    obtain ⟨r, hrm, rfl⟩ := List.mem_map.mp hy'
    exact apart (hx q (sub.subset hqm)) (hx r (sub.subset hrm)) (by omega)
  · intro x hxm
    obtain ⟨q, hqm, rfl⟩ := List.mem_map.mp hxm
    rw [← hG] at hqm
    have := (List.mem_filter.mp hqm).2
    rw [Bool.and_eq_true, beq_iff_eq, beq_iff_eq] at this
    rw [← this.1, ← this.2]

theorem fit_ok : FitOk := by
  intro p row qs ls M hp h1 h2 h3 hb hr hx hls hw
  have hP := six_P p hp
  have pb := pr_b hp
  obtain ⟨n, rfl⟩ := Int.eq_ofNat_of_zero_le (show 0 ≤ p by omega)
  have hP' : PrP n := hP
  have hwl : 2 * (wrongP n row qs).length ≤ qs.length - row.length := by
    have : (wrongP n row qs).length = ls.length := by rw [hls, List.length_map]
    omega
  rcases fitting_spec hP' (M := M) (many := row.length) (qs := qs) (.inl rfl) (by omega) h2 (by omega) hr hx with ⟨r, r1, r2, r3, r4⟩ | ⟨n1, _⟩
  · have : r = row := fit_one hP' r1 r2 hb hr (fun q hq => (hx q hq).1) (show (wrongP n r qs).length + (wrongP n row qs).length + r.length ≤ qs.length by omega)
    rw [this] at r4
    rw [hls]
    exact r4
  · have := n1 row rfl hb
    omega

/-! ### pairs sorted -/
theorem srt_ok {β : Type} (g : β → PyData) (ps : List (Int × β)) (nd : (ps.map Prod.fst).Nodup) (M : Mem) : ∃ qs : List (Int × β), qs.Perm ps ∧ (qs.map Prod.fst).Pairwise (· < ·) ∧ fSortK M (.dat (.list (ps.map fun q => PyData.tuple [.int q.1, g q.2]))) = some (.dat (.list (qs.map fun q => PyData.tuple [.int q.1, g q.2]))) := by
  have hk : ∀ ps : List (Int × β), keysOf (ps.map fun q => PyData.tuple [.int q.1, g q.2]) = some (ps.map fun q => (q.1, g q.2)) := by
    intro ps
    induction ps with
    | nil => rfl
    | cons q ps ih => simp only [List.map_cons, keysOf, ih, Option.bind_some]
  obtain ⟨qs, h1, h2⟩ := perm_lift (f := fun q : Int × β => (q.1, g q.2)) (srtK_perm (ps.map fun q => (q.1, g q.2))) ps rfl
  refine ⟨qs, h1, ?_, ?_⟩
  · have s := srtK_sorted (ps.map fun q => (q.1, g q.2))
    rw [← h2, List.pairwise_map] at s
    have nd' : (qs.map Prod.fst).Nodup := (h1.map Prod.fst).nodup_iff.mpr nd
    rw [List.nodup_iff_pairwise_ne, List.pairwise_map] at nd'
    rw [List.pairwise_map]
    exact List.Pairwise.imp₂ (fun a c h1 h2 => by dsimp only at h1; omega) s nd'
  · have n1 : nodupB ((ps.map fun q => (q.1, g q.2)).map Prod.fst) = true := by
      rw [nodupB_iff, List.map_map]; exact nd
    simp only [fSortK, hk, Option.bind_some, n1, if_true]
    rw [← h2, List.map_map]; rfl
theorem in_tup {M : Mem} (x : Int) (fs : List Int) : fIn false M (ze x) (.dat (rD fs)) = some (.dat (.bool (decide (x ∈ fs)))) := by
  have e2 : ∀ l : List Int, (l.map PyData.int).all flatD = true := by
    intro l; induction l with
    | nil => rfl
    | cons a l ih => simp [flatD]
  have e3 : inD (.int x) (fs.map PyData.int) = decide (x ∈ fs) := by
    unfold inD
    rw [List.any_map, Bool.eq_iff_iff, List.any_eq_true, decide_eq_true_eq]
    constructor
    · rintro ⟨y, hy, e⟩
      simp only [Function.comp, PyData.eqv, beq_iff_eq] at e
      rw [← e]; exact hy
    · intro hx
      exact ⟨x, hx, by simp [Function.comp, PyData.eqv]⟩
  have e1 : items M (.dat (rD fs)) = some (fs.map PyData.int) := rfl
  simp [fIn, e1, e2, e3, flatD]
theorem om_loop {p : Int} {fs : List Int} {M : Mem} (hp : 0 < p) (o0 : Option SV) : ∀ (k : Nat) (x : Int) (n : Nat), k < n → 0 ≤ x → x < p → (∀ j : Nat, j < k → (x + j) % p ∈ fs) → (x + k) % p ∉ fs →
    whl (bVal (eOp (fIn false) (eVar 3) (eVar 2))) (sAsg (eOp (lift2 dMod) (eOp (lift2 dAdd) (eVar 3) (eC (.int 1))) (eVar 1)) (gNm 3)) n [o0, some (ze p), some (.dat (rD fs)), some (ze x)] M = some (.nx [o0, some (ze p), some (.dat (rD fs)), some (ze ((x + k) % p))] M)
  | 0, x, n + 1, _, h0, h1, _, hx => by
    have e : (x + (0 : Nat)) % p = x := by rw [Int.natCast_zero, Int.add_zero]; exact Int.emod_eq_of_lt h0 h1
    rw [e] at hx ⊢
    refine whl_end (M1 := M) ?_
    have e2 := in_tup (M := M) x fs
    rw [decide_eq_false hx] at e2
    exact bVal_eq (eOp_eq (M1 := M) (x := ze x) (y := .dat (rD fs)) rfl rfl e2)
  | k + 1, x, n + 1, hk, h0, h1, hj, hx => by
    have m0 := hj 0 (by omega)
    rw [Int.natCast_zero, Int.add_zero, Int.emod_eq_of_lt h0 h1] at m0
    have sh : ∀ j : Nat, ((x + 1) % p + j) % p = (x + (j + 1 : Nat)) % p := by
      intro j
      rw [Int.emod_add_emod]
      congr 1; push_cast; omega
    have ih := om_loop (M := M) hp o0 k ((x + 1) % p) n (by omega) (Int.emod_nonneg _ (by omega)) (Int.emod_lt_of_pos _ hp) (fun j hjk => by rw [sh]; exact hj (j + 1) (by omega)) (by rw [sh]; exact hx)
    rw [sh] at ih
    refine whl_nx (M1 := M) (M2 := M) ?_ (sAsg_eq (M1 := M) (eOp_eq (M1 := M) (eOp_eq (M1 := M) (x := ze x) (y := ze 1) rfl rfl l_add) (y := ze p) rfl (l_mod hp)) rfl) ih
    have e2 := in_tup (M := M) x fs
    rw [decide_eq_true m0] at e2
    exact bVal_eq (eOp_eq (M1 := M) (x := ze x) (y := .dat (rD fs)) rfl rfl e2)
theorem xone_more_ok {rest : Mem} {b p : Int} {M : Mem} {xs : List Int} (h : Gd rest b M) (hb : b < 15000000) (hp : 11 ≤ p ∧ p ≤ 1000) (hl : xs.length ≤ 10) : ∃ x M', F_xone_more [.cel 3, ze p, .dat (rD xs)] M = some (ze x, M') ∧ 0 ≤ x ∧ x < p ∧ x ∉ xs ∧ Gd rest (b + 1) M' := by
  obtain ⟨r, M1, e1, r1, r2, h1⟩ := next_g (many := p) h (by omega) (by omega) (by omega)
  obtain ⟨k, k1, k2, k3⟩ := next_free (p := p) r xs (by omega)
  have lp := om_loop (p := p) (fs := xs) (M := M1) (by omega) (some (.cel 3)) k r 1000 (by omega) r1 r2 k2 k3
  refine ⟨(r + k) % p, M1, mkF_rtL (h1.len h).symm ?_, Int.emod_nonneg _ (by omega), Int.emod_lt_of_pos _ (by omega), k3, h1⟩
  refine sSeq_nx (M1 := M1) (ρ1 := [some (.cel 3), some (ze p), some (.dat (rD xs)), some (ze r)]) (sAsg_eq (eCall_eq (M1 := M) (xs := [.cel 3, ze p]) rfl e1) rfl) ?_
  exact sSeq_nx lp rfl
theorem zip_more {β : Type} {xs : List Int} {rs : List β} (hl : xs.length = rs.length) (xr : xs.Pairwise (· < ·)) {x : Int} (hx : x ∉ xs) (v : β) : ((xs.zip rs ++ [(x, v)]).map Prod.fst).Nodup := by
  rw [List.map_append, List.map_fst_zip (by omega), List.map_singleton, List.nodup_append]
  refine ⟨?_, List.nodup_cons.mpr ⟨List.not_mem_nil, List.nodup_nil⟩, ?_⟩
  · rw [List.nodup_iff_pairwise_ne]
    exact xr.imp fun h => by omega
  · intro a ha b hb e
    rw [List.mem_singleton] at hb
    rw [e, hb] at ha
    exact hx ha
theorem flt_perm {α : Type} {a b : List α} (h : a.Perm b) (t : α → Bool) : (a.filter t).length = (b.filter t).length := (h.filter t).length_eq
/-! ### a turn with rows -/
theorem row_turn {p : Int} (hp : p ∈ six) {row oneR xs rs : List Int} {x : Int} {bn : Nat} {M : Mem} {v0 v3 v4 v6 : SV} (ol : oneR.length = row.length) (r1 : 1 ≤ row.length) (rb : ∀ z ∈ row, 0 ≤ z ∧ z < p) (xr : xs.Pairwise (· < ·)) (xb : ∀ z ∈ xs, 0 ≤ z ∧ z < p) (xl : xs.length ≤ 7) (hl : xs.length = rs.length) (rsb : ∀ z ∈ rs, 0 ≤ z ∧ z < p) (xn : xs.length + 1 = row.length + 2 * bn) (hx : x ∉ xs) (x0 : 0 ≤ x ∧ x < p)
    (hw : ((xs.zip rs).filter fun q => !(q.2 == hor p q.1 row)).length ≤ bn) (o10 o11 : Option SV) :
    ∃ q10 q11, Lb_xrows_right_6_1 [some v0, some (ze p), some (.dat (rD xs)), some v3, some v4, some (.dat (rD oneR)), some v6, some (.dat (rD rs)), some (ze x), some (.dat (rD row)), o10, o11, none, none] M = some (.nx [some v0, some (ze p), some (.dat (rD xs)), some v3, some v4, some (.dat (rD oneR)), some v6, some (.dat (rD rs)), some (ze x), some (.dat (rD row)), q10, q11, none, none] M) := by
  have pb := pr_b hp
  have hv := hor_lt (p := p) (x := x) (by omega) row
  obtain ⟨qs, hperm, hq, es⟩ := srt_ok PyData.int (xs.zip rs ++ [(x, hor p x row)]) (zip_more hl xr hx _) M
  have ql : qs.length = xs.length + 1 := by
    rw [hperm.length_eq, List.length_append, List.length_zip, List.length_singleton]; omega
  have qb : ∀ q ∈ qs, (0 ≤ q.1 ∧ q.1 < p) ∧ 0 ≤ q.2 ∧ q.2 < p := by
    intro q hq'
    rcases List.mem_append.mp (hperm.mem_iff.mp hq') with z | z
    · exact ⟨xb q.1 (List.of_mem_zip z).1, rsb q.2 (List.of_mem_zip z).2⟩
    · rw [List.mem_singleton] at z; rw [z]; exact ⟨x0, hv⟩
  have wl : (qs.filter fun q => !(q.2 == hor p q.1 row)).length ≤ bn := by
    rw [flt_perm hperm, List.filter_append, List.length_append]
    have : ([(x, hor p x row)].filter fun q => !(q.2 == hor p q.1 row)) = [] := by simp
    rw [this]; exact hw
  have ft := fit_ok p row qs ((qs.filter fun q => !(q.2 == hor p q.1 row)).map Prod.fst) M hp r1 (by omega) (by omega) rb hq qb rfl (by rw [List.length_map]; omega)
  generalize hls : (qs.filter fun q => !(q.2 == hor p q.1 row)).map Prod.fst = ls at *
  have lsb : ∀ z ∈ ls, 0 ≤ z ∧ z < 1000 := by
    intro z hz
    rw [← hls] at hz
    obtain ⟨q, hq', rfl⟩ := List.mem_map.mp hz
    have := (qb q (List.mem_filter.mp hq').1).1
    omega
  have lsl : ls.length ≤ 8 := by
    rw [← hls, List.length_map]
    have := List.length_filter_le (fun q : Int × Int => !(q.2 == hor p q.1 row)) qs
    omega
  have lc := lcL_filter (g := gTp [12, 13]) (tt := bVal (eOp (lift2 dNe) (eCall F_xvalue (aCons (eVar 1) (aCons (eVar 9) (aCons (eVar 12) aNil)))) (eVar 13))) (el := eVar 12) (ρ := [some v0, some (ze p), some (.dat (rD xs)), some v3, some v4, some (.dat (rD oneR)), some v6, some (.dat (rD rs)), some (ze x), some (.dat (rD row)), some (.dat (.tuple (qs.map pD))), o11, none, none]) (M := M)
    (p := fun d => match d with | .tuple [.int x, .int y] => !(hor p x row == y) | _ => false) (f := fun d => match d with | .tuple [.int x, _] => .int x | d => d) (qs.map pD) (by
      intro d hd
      obtain ⟨q, hq', rfl⟩ := List.mem_map.mp hd
      have h1 := (qb q hq').1
      exact ⟨_, rfl, bVal_eq (eOp_eq (M1 := M) (M2 := M) (x := ze (hor p q.1 row)) (y := ze q.2) (eCall_eq (M1 := M) (xs := [ze p, .dat (.tuple (row.map PyData.int)), ze q.1]) rfl (xvalue_ok (by omega) (by omega))) rfl l_ne), fun _ => rfl⟩)
  have e : ((qs.map pD).filter fun d => match d with | .tuple [.int x, .int y] => !(hor p x row == y) | _ => false).map (fun d => match d with | .tuple [.int x, _] => PyData.int x | d => d) = ls.map PyData.int := by
    rw [← hls, List.filter_map, List.map_map, List.map_map]
    have : ((fun d : PyData => match d with | .tuple [.int x, .int y] => !(hor p x row == y) | _ => false) ∘ pD) = fun q : Int × Int => !(q.2 == hor p q.1 row) := funext fun q => by
      show (!(hor p q.1 row == q.2)) = _
      rw [Bool.beq_comm]
    rw [this]; rfl
  rw [e] at lc
  have sw : Sw (.tuple [rD row, rD ls]) 2 (3 + 2 * (3 + 20 * 1923 + 2)) := by
    refine Sw.tup (k := 1) (w := 3 + 20 * 1923) (ds := [rD row, rD ls]) fun e he => ?_
    rcases List.mem_cons.mp he with z | z
    · rw [z]; exact Sw.row (fun z hz => by have := rb z hz; omega) (by omega)
    · rw [List.mem_singleton] at z; rw [z]; exact Sw.row lsb (by omega)
  have rp := sw.repr (M := M) (by decide) rfl
  have zp : eZp .list (aCons (eVar 2) (aCons (eVar 7) aNil)) [some v0, some (ze p), some (.dat (rD xs)), some v3, some v4, some (.dat (rD oneR)), some v6, some (.dat (rD rs)), some (ze x), some (.dat (rD row)), o10, o11, none, none] M = some (.dat (.list ((xs.zip rs).map pD)), M) := by
    have := eZp_e (k := .list) (a := aCons (eVar 2) (aCons (eVar 7) aNil)) (ρ := [some v0, some (ze p), some (.dat (rD xs)), some v3, some v4, some (.dat (rD oneR)), some v6, some (.dat (rD rs)), some (ze x), some (.dat (rD row)), o10, o11, none, none]) (M := M) (M1 := M) (d := rD xs) (e := rD rs) rfl rfl rfl (by rw [List.length_map, List.length_map]; omega)
    rw [this, zipD_ints]
  have vx := xvalue_ok (p := p) (x := x) (rs := row) (M := M) (by omega) (by omega)
  have ad : lift2 dAdd M (.dat (.list ((xs.zip rs).map pD))) (.dat (.list [pD (x, hor p x row)])) = some (.dat (.list ((xs.zip rs ++ [(x, hor p x row)]).map pD))) := by
    rw [List.map_append]
    exact l_addL (Nat.ble_eq_true_of_le (by rw [List.length_map, List.length_zip]; show min xs.length rs.length + 1 ≤ 100000; omega))
  have s1 : sAsg (eCB (one fTuple) (aCons (eCB (one fSortK) (aCons (eOp (lift2 dAdd) (eZp .list (aCons (eVar 2) (aCons (eVar 7) aNil))) (eLst (aCons (eTup (aCons (eVar 8) (aCons (eCall F_xvalue (aCons (eVar 1) (aCons (eVar 9) (aCons (eVar 8) aNil)))) aNil))) aNil))) aNil)) aNil)) (gNm 10) [some v0, some (ze p), some (.dat (rD xs)), some v3, some v4, some (.dat (rD oneR)), some v6, some (.dat (rD rs)), some (ze x), some (.dat (rD row)), o10, o11, none, none] M = some (.nx [some v0, some (ze p), some (.dat (rD xs)), some v3, some v4, some (.dat (rD oneR)), some v6, some (.dat (rD rs)), some (ze x), some (.dat (rD row)), some (.dat (.tuple (qs.map pD))), o11, none, none] M) := by
    refine sAsg_eq (M1 := M) (eCB_eq (M1 := M) (xs := [.dat (.list (qs.map pD))]) (aCons_eq (M1 := M) (eCB_eq (M1 := M) (xs := [.dat (.list ((xs.zip rs ++ [(x, hor p x row)]).map pD))]) (aCons_eq (M1 := M) (eOp_eq (M1 := M) (M2 := M) zp (eLst_eq (xs := [.dat (pD (x, hor p x row))]) (aCons_eq (M1 := M) (eTup_eq (xs := [ze x, ze (hor p x row)]) (aCons_eq (M1 := M) rfl (aCons_eq (M1 := M) (eCall_eq (M1 := M) (xs := [ze p, .dat (rD row), ze x]) rfl vx) rfl)) rfl (show 2 ≤ 100000 by omega)) rfl) rfl (show 1 ≤ 100000 by omega)) ad) rfl) es) rfl) rfl) rfl
  refine ⟨some (.dat (.tuple (qs.map pD))), some (.dat (rD ls)), sSeq_nx s1 ?_⟩
  refine sSeq_nx (M1 := M) (ρ1 := [some v0, some (ze p), some (.dat (rD xs)), some v3, some v4, some (.dat (rD oneR)), some v6, some (.dat (rD rs)), some (ze x), some (.dat (rD row)), some (.dat (.tuple (qs.map pD))), some (.dat (rD ls)), none, none]) (sAsg_eq (M1 := M) (eCB_eq (M1 := M) (xs := [.dat (.list (ls.map PyData.int))]) (aCons_eq (M1 := M) (eLc_eq (vs := [12, 13]) (M1 := M) (iDat_t rfl) (by rw [List.length_map]; omega) lc) rfl) rfl) rfl) ?_
  have len : fLen M (.dat (rD oneR)) = some (ze (row.length : Int)) := by
    show some (ze ((oneR.map PyData.int).length : Int)) = _
    rw [List.length_map, ol]
  generalize hR : PyData.tuple [rD row, rD ls] = R at *
  generalize hS : R.shown = t at rp
  have nn : lift2 dNe M (.dat (.str t)) (.dat (.str t)) = some (.dat (.bool false)) := l_neSS
  refine sIf_f (M1 := M) (bVal_eq (eOp_eq (M1 := M) (M2 := M) (eCB_eq (M1 := M) (xs := [.dat R]) (aCons_eq (M1 := M) (eCall_eq (M1 := M) (xs := [ze p, ze (row.length : Int), .dat (.tuple (qs.map pD))]) (aCons_eq (M1 := M) rfl (aCons_eq (M1 := M) (eCB_eq (M1 := M) (xs := [.dat (rD oneR)]) rfl len) rfl)) ft) rfl) rp) (eCB_eq (M1 := M) (xs := [.dat R]) (aCons_eq (M1 := M) (eTup_eq (xs := [.dat (rD row), .dat (rD ls)]) rfl rfl (show 2 ≤ 100000 by omega) |> fun z => by rw [hR] at z; exact z) rfl) rp) nn)) rfl

end Lk38

namespace Lk38
open PySem Sm L2
local macro_rules
  | `(tactic| walk_at "le") => `(tactic| ((try simp only [List.length_cons, List.length_nil, List.length_append, List.length_map]); omega))
local macro_rules
  | `(tactic| walk_at "smb") => `(tactic| first
    | with_reducible assumption
    | with_reducible rfl
    | assumption
    | rfl
    | (simp only [decide_eq_true_eq, decide_eq_false_iff_not, beq_iff_eq, Bool.not_eq_true', Bool.not_eq_false', beq_eq_false_iff_ne, Bool.and_eq_true, Bool.or_eq_true, Bool.not_eq_true, Bool.not_eq_false, ne_eq, Bool.and_eq_false_imp, Bool.or_eq_false_iff]; omega))
local macro_rules
  | `(tactic| walk_at "smf") => `(tactic| fail "no call")
local macro_rules
  | `(tactic| walk_at "sml") => `(tactic| first
    | with_reducible assumption
    | with_reducible exact l_add
    | with_reducible exact l_sub
    | with_reducible exact l_eq
    | with_reducible exact l_ne
    | with_reducible exact l_lt
    | with_reducible exact l_le
    | with_reducible exact l_gt
    | with_reducible exact l_ge
    | with_reducible exact l_eqSS
    | with_reducible exact l_neSS
    | with_reducible exact l_eqBS
    | with_reducible exact l_neBS
    | with_reducible exact l_eqB
    | with_reducible exact l_neB
    | with_reducible exact l_eqS
    | with_reducible exact l_neS
    | with_reducible exact l_neg
    | with_reducible exact isi_int _
    | with_reducible exact isi_bool _
    | with_reducible exact isi_tup _
    | with_reducible exact l_lenL
    | with_reducible exact l_lenT
    | with_reducible exact l_slL
    | with_reducible exact l_slT
    | ((with_reducible apply l_mod); (walk_at "smo"))
    | ((with_reducible apply l_mul); (walk_at "smo"))
    | ((with_reducible apply l_div); (walk_at "smo"); (walk_at "smo"))
    | ((with_reducible apply l_addT); rfl)
    | ((with_reducible apply l_addL); rfl)
    | ((with_reducible apply l_ixL); first | assumption | rfl)
    | ((with_reducible apply l_ixT); first | assumption | rfl)
    | ((with_reducible apply one_eq); (walk_at "sml"))
    | with_reducible assumption
    | rfl)
local macro_rules
  | `(tactic| walk_at "smo") => `(tactic| first | assumption | omega)
local macro_rules
  | `(tactic| walk_at "sm") => `(tactic| first
    | with_reducible assumption
    | with_reducible exact aNil_eq
    | with_reducible exact eC_eq
    | with_reducible exact sNext_eq
    | with_reducible exact eD0_eq
    | ((with_reducible apply eD1_eq); (walk_at "sm"))
    | ((with_reducible apply eC_e); rfl)
    | with_reducible exact oNone_eq
    | ((with_reducible apply eVar_eq); rfl)
    | ((with_reducible apply aCons_eq); (walk_at "sm"); (walk_at "sm"))
    | ((with_reducible apply eOp_eq); (walk_at "sm"); (walk_at "sm"); (walk_at "sml"))
    | ((with_reducible apply eUn_eq); (walk_at "sm"); (walk_at "sml"))
    | ((with_reducible apply eCB_eq); (walk_at "sm"); (walk_at "sml"))
    | ((with_reducible apply eCall_eq); (walk_at "sm"); (first | with_reducible assumption | walk_at "smf"))
    | ((with_reducible apply eTup_e); (walk_at "sm"); rfl; rfl)
    | ((with_reducible apply eLst_e); (walk_at "sm"); rfl; rfl)
    | ((with_reducible apply oSome_eq); (walk_at "sm"))
    | ((with_reducible apply eSl_eq); (walk_at "sm"); (walk_at "sm"); (walk_at "sm"); (walk_at "sml"))
    | ((with_reducible apply eNot_eq); (walk_at "sm"))
    | ((with_reducible apply bNot_eq); (walk_at "sm"))
    | ((with_reducible apply bVal_eq); (walk_at "sm"))
    | ((with_reducible apply bTru_b); (walk_at "sm"))
    | ((with_reducible apply eChain_e); (walk_at "sm"); (walk_at "sm"); (walk_at "sml"); (walk_at "sm"); (walk_at "sml"))
    | ((with_reducible apply eChain3_e); (walk_at "sm"); (walk_at "sm"); (walk_at "sml"); (walk_at "sm"); (walk_at "sml"); (walk_at "sm"); (walk_at "sml"))
    | ((with_reducible apply bOr_e); (walk_at "sm"); (first | ((apply ite_T); (walk_at "smb"); rfl) | ((apply ite_F); (walk_at "smb"); (walk_at "sm")) | ((apply or_gen); (walk_at "sm"))))
    | ((with_reducible apply bAnd_e); (walk_at "sm"); (first | ((apply ite_F); (walk_at "smb"); rfl) | ((apply ite_T); (walk_at "smb"); (walk_at "sm")) | ((apply and_gen); (walk_at "sm"))))
    | ((with_reducible apply eOr_e); (walk_at "sm"); (first | ((apply ite_T); (walk_at "smb"); rfl) | ((apply ite_F); (walk_at "smb"); (walk_at "sm")) | ((apply eor_gen); (walk_at "sm"))))
    | ((with_reducible apply eAnd_e); (walk_at "sm"); (first | ((apply ite_F); (walk_at "smb"); rfl) | ((apply ite_T); (walk_at "smb"); (walk_at "sm")) | ((apply eand_gen); (walk_at "sm"))))
    | ((with_reducible apply eIf_e); (walk_at "sm"); (first | ((apply ite_T); (walk_at "smb"); (walk_at "sm")) | ((apply ite_F); (walk_at "smb"); (walk_at "sm"))))
    | ((with_reducible apply sIf_e); (walk_at "sm"); (first | ((apply ite_T); (walk_at "smb"); (walk_at "sm")) | ((apply ite_F); (walk_at "smb"); (walk_at "sm"))))
    | ((with_reducible apply sSeq_e); (walk_at "sm"); (first | with_reducible exact seqK_rt | ((with_reducible apply seqK_nx); (walk_at "sm")) | ((with_reducible refine Eq.trans seqK_rt ?_); rfl)))
    | ((with_reducible apply sRet_eq); (walk_at "sm"))
    | ((with_reducible apply sAsg_eq); (walk_at "sm"); (walk_at "smg"))
    | with_reducible assumption
    | walk_at "smx")
local macro_rules
  | `(tactic| walk_at "smx") => `(tactic| fail "no step")
local macro_rules
  | `(tactic| walk_at "smg") => `(tactic| first
    | ((with_reducible apply gNm_e); ((dsimp only [List.set]) <;> rfl))
    | ((with_reducible apply gTp_e); rfl; ((dsimp only [setAll, List.set]) <;> rfl))
    | rfl)

/-! ### a turn with tables -/
theorem tab_turn {p : Nat} (hP : PrP p) (pb : 11 ≤ (p : Int) ∧ (p : Int) ≤ 211) {l : Int} {k d bn : Nat} (k1 : 1 ≤ k) (hk : k ≤ d) (hd : d ≤ 5) {T : Nat → Nat → Int} (t1 : Tab p k d T) {q0 : List (Int × List Int)} {x : Int} {M : Mem} {v0 v6 v8 v9 v10 : SV} (xr : (q0.map Prod.fst).Pairwise (· < ·)) (qb0 : ∀ q ∈ q0, (0 ≤ q.1 ∧ q.1 < (p : Int)) ∧ q.2.length = d ∧ ∀ z ∈ q.2, 0 ≤ z ∧ z < (p : Int)) (xl : q0.length ≤ 7) (xn : q0.length + 1 = k + 2 * bn) (hx : x ∉ q0.map Prod.fst) (x0 : 0 ≤ x ∧ x < (p : Int)) (hw : (wrongR p d T q0).length ≤ bn) (o14 o15 : Option SV) :
    ∃ q14 q15, Lb_xtables_right_7_1 [some v0, some (.dat (shD p k d l)), some (ze p), some (ze (k : Int)), some (ze (d : Int)), some (ze l), some v6, some (.dat (rD (q0.map Prod.fst))), some v8, some v9, some v10, some (.dat (.tuple ((q0.map Prod.snd).map rD))), some (ze x), some (.dat (tD d T)), o14, o15, none, none] M = some (.nx [some v0, some (.dat (shD p k d l)), some (ze p), some (ze (k : Int)), some (ze (d : Int)), some (ze l), some v6, some (.dat (rD (q0.map Prod.fst))), some v8, some v9, some v10, some (.dat (.tuple ((q0.map Prod.snd).map rD))), some (ze x), some (.dat (tD d T)), q14, q15, none, none] M) := by
  have kb := kept_b (p := p) (x := x) (d := d) (T := T) (by omega)
  have zz : (q0.map Prod.fst).zip (q0.map Prod.snd) = q0 := by
    clear xr qb0 xl xn hx hw
    induction q0 with
    | nil => rfl
    | cons a q0 ih => rw [List.map_cons, List.map_cons, List.zip_cons_cons, ih]
  have nd := zip_more (rs := q0.map Prod.snd) (by rw [List.length_map, List.length_map]) xr hx (keptL p d T x)
  rw [zz] at nd
  obtain ⟨qs, hperm, hq, es⟩ := srt_ok rD (q0 ++ [(x, keptL p d T x)]) nd M
  have ql : qs.length = q0.length + 1 := by rw [hperm.length_eq, List.length_append, List.length_singleton]
  have qb : ∀ q ∈ qs, (0 ≤ q.1 ∧ q.1 < (p : Int)) ∧ q.2.length = d ∧ ∀ z ∈ q.2, 0 ≤ z ∧ z < (p : Int) := by
    intro q hq'
    rcases List.mem_append.mp (hperm.mem_iff.mp hq') with z | z
    · exact qb0 q z
    · rw [List.mem_singleton] at z; rw [z]; exact ⟨x0, kept_len, kb⟩
  have wl : (wrongR p d T qs).length ≤ bn := by
    show (qs.filter _).length ≤ bn
    rw [flt_perm hperm, List.filter_append, List.length_append]
    have : ([(x, keptL p d T x)].filter fun q => !(q.2 == keptL p d T q.1)) = [] := by simp
    rw [this]; exact hw
  have prs : Prs p d qs := by
    refine ⟨by omega, fun q h => (qb q h).1, fun q h => (qb q h).2.1, fun q h => (qb q h).2.2, ?_⟩
    have := hq
    rw [List.pairwise_map] at this
    exact this.imp_of_mem fun {a c} ha hc hac => apart (qb a ha).1 (qb c hc).1 (by omega)
  have rr := read_right_is hP pb (l := l) k1 hk hd prs (by omega) (by omega) t1 (by omega) (M := M)
  have lsb : ∀ z ∈ (wrongR p d T qs).map Prod.fst, 0 ≤ z ∧ z < 1000 := by
    intro z hz
    obtain ⟨q, hq', rfl⟩ := List.mem_map.mp hz
    have := (qb q (List.mem_filter.mp hq').1).1
    omega
  have lsl : ((wrongR p d T qs).map Prod.fst).length ≤ 8 := by
    rw [List.length_map]
    have := List.length_filter_le (fun q : Int × List Int => !(q.2 == keptL p d T q.1)) qs
    exact Nat.le_trans this (by omega)
  have lc := lcL_filter (g := gTp [16, 17]) (tt := bVal (eOp (lift2 dNe) (eCall F_xkept (aCons (eVar 2) (aCons (eVar 13) (aCons (eVar 16) aNil)))) (eVar 17))) (el := eVar 16) (ρ := [some v0, some (.dat (shD p k d l)), some (ze p), some (ze (k : Int)), some (ze (d : Int)), some (ze l), some v6, some (.dat (rD (q0.map Prod.fst))), some v8, some v9, some v10, some (.dat (.tuple ((q0.map Prod.snd).map rD))), some (ze x), some (.dat (tD d T)), some (.dat (.tuple (qs.map qD))), o15, none, none]) (M := M) (p := fun e => match e with | .tuple [.int x, .tuple ds] => !((intsOf ds).getD [] == keptL p d T x) | _ => false) (f := fun e => match e with | .tuple [.int x, _] => .int x | d => d) (qs.map qD) (by
    intro e he
    obtain ⟨q, hq', rfl⟩ := List.mem_map.mp he
    have bq := (qb q hq').1
    have k1 := xkept_ok (p := p) (x := q.1) (d := d) (T := T) (M := M) (by omega) (by omega) (by omega)
    have ne := l_neInts (M := M) (keptL p d T q.1) q.2
    refine ⟨_, rfl, ?_, fun _ => rfl⟩
    show _ = some (!((intsOf (q.2.map PyData.int)).getD [] == keptL p d T q.1), M)
    rw [intsOf_map]
    refine bVal_eq (eOp_eq (M1 := M) (M2 := M) (eCall_eq (M1 := M) (xs := [ze p, .dat (tD d T), ze q.1]) rfl k1) (y := .dat (rD q.2)) rfl ?_)
    rw [ne]
    show _ = some (SV.dat (PyData.bool (!(q.2 == keptL p d T q.1))))
    rw [Bool.beq_comm])
  have e : ((qs.map qD).filter fun e => match e with | .tuple [.int x, .tuple ds] => !((intsOf ds).getD [] == keptL p d T x) | _ => false).map (fun e => match e with | .tuple [.int x, _] => PyData.int x | d => d) = ((wrongR p d T qs).map Prod.fst).map PyData.int := by
    rw [List.filter_map, List.map_map, List.map_map]
    have : ((fun e : PyData => match e with | .tuple [.int x, .tuple ds] => !((intsOf ds).getD [] == keptL p d T x) | _ => false) ∘ qD) = fun q => !(q.2 == keptL p d T q.1) := funext fun q => by
      show (!((intsOf (q.2.map PyData.int)).getD [] == keptL p d T q.1)) = _
      rw [intsOf_map]; rfl
    rw [this]; rfl
  rw [e] at lc
  generalize (wrongR p d T qs).map Prod.fst = ls at *
  have sw : Sw (.tuple [tD d T, rD ls]) 3 (3 + 2 * (3 + 5 * (3 + 5 * 1923 + 2) + 2)) := by
    refine Sw.tup (k := 2) (w := 3 + 5 * (3 + 5 * 1923 + 2)) (ds := [tD d T, rD ls]) fun e he => ?_
    rcases List.mem_cons.mp he with z | z
    · rw [z]; exact tab_sw hd (fun r c => by have := t1.b r c; omega)
    · rw [List.mem_singleton] at z; rw [z]; exact (Sw.row (n := 8) lsb lsl).up (by omega) (by omega)
  have rp := sw.repr (M := M) (by decide) rfl
  have zp : eZp .list (aCons (eVar 7) (aCons (eVar 11) aNil)) [some v0, some (.dat (shD p k d l)), some (ze p), some (ze (k : Int)), some (ze (d : Int)), some (ze l), some v6, some (.dat (rD (q0.map Prod.fst))), some v8, some v9, some v10, some (.dat (.tuple ((q0.map Prod.snd).map rD))), some (ze x), some (.dat (tD d T)), o14, o15, none, none] M = some (.dat (.list (q0.map qD)), M) := by
    rw [← zip_split]
    exact eZp_e (d := rD (q0.map Prod.fst)) (e := .tuple ((q0.map Prod.snd).map rD)) rfl rfl rfl (by rw [List.length_map, List.length_map, List.length_map, List.length_map]; omega)
  have vx := xkept_ok (p := p) (x := x) (d := d) (T := T) (M := M) (by omega) (by omega) (by omega)
  have ad : lift2 dAdd M (.dat (.list (q0.map qD))) (.dat (.list [qD (x, keptL p d T x)])) = some (.dat (.list ((q0 ++ [(x, keptL p d T x)]).map qD))) := by
    rw [List.map_append]
    exact l_addL (Nat.ble_eq_true_of_le (by rw [List.length_map]; show q0.length + 1 ≤ 100000; omega))
  generalize keptL p d T x = kx at *
  have s1 : sAsg (eCB (one fTuple) (aCons (eCB (one fSortK) (aCons (eOp (lift2 dAdd) (eZp .list (aCons (eVar 7) (aCons (eVar 11) aNil))) (eLst (aCons (eTup (aCons (eVar 12) (aCons (eCall F_xkept (aCons (eVar 2) (aCons (eVar 13) (aCons (eVar 12) aNil)))) aNil))) aNil))) aNil)) aNil)) (gNm 14) [some v0, some (.dat (shD p k d l)), some (ze p), some (ze (k : Int)), some (ze (d : Int)), some (ze l), some v6, some (.dat (rD (q0.map Prod.fst))), some v8, some v9, some v10, some (.dat (.tuple ((q0.map Prod.snd).map rD))), some (ze x), some (.dat (tD d T)), o14, o15, none, none] M = some (.nx [some v0, some (.dat (shD p k d l)), some (ze p), some (ze (k : Int)), some (ze (d : Int)), some (ze l), some v6, some (.dat (rD (q0.map Prod.fst))), some v8, some v9, some v10, some (.dat (.tuple ((q0.map Prod.snd).map rD))), some (ze x), some (.dat (tD d T)), some (.dat (.tuple (qs.map qD))), o15, none, none] M) := by
    refine sAsg_eq (M1 := M) (eCB_eq (M1 := M) (xs := [.dat (.list (qs.map qD))]) (aCons_eq (M1 := M) (eCB_eq (M1 := M) (xs := [.dat (.list ((q0 ++ [(x, kx)]).map qD))]) (aCons_eq (M1 := M) (eOp_eq (M1 := M) (M2 := M) zp (eLst_eq (xs := [.dat (qD (x, kx))]) (aCons_eq (M1 := M) (eTup_eq (xs := [ze x, .dat (rD kx)]) (aCons_eq (M1 := M) rfl (aCons_eq (M1 := M) (eCall_eq (M1 := M) (xs := [ze p, .dat (tD d T), ze x]) rfl vx) rfl)) rfl (show 2 ≤ 100000 by omega)) rfl) rfl (show 1 ≤ 100000 by omega)) ad) rfl) es) rfl) rfl) rfl
  refine ⟨some (.dat (.tuple (qs.map qD))), some (.dat (rD ls)), sSeq_nx s1 ?_⟩
  refine sSeq_nx (M1 := M) (ρ1 := [some v0, some (.dat (shD p k d l)), some (ze p), some (ze (k : Int)), some (ze (d : Int)), some (ze l), some v6, some (.dat (rD (q0.map Prod.fst))), some v8, some v9, some v10, some (.dat (.tuple ((q0.map Prod.snd).map rD))), some (ze x), some (.dat (tD d T)), some (.dat (.tuple (qs.map qD))), some (.dat (rD ls)), none, none]) (sAsg_eq (M1 := M) (eCB_eq (M1 := M) (xs := [.dat (.list (ls.map PyData.int))]) (aCons_eq (M1 := M) (eLc_eq (vs := [16, 17]) (M1 := M) (iDat_t rfl) (by rw [List.length_map]; omega) lc) rfl) rfl) rfl) ?_
  generalize hR : PyData.tuple [tD d T, rD ls] = R at *
  generalize hS : R.shown = t at rp
  have nn : lift2 dNe M (.dat (.str t)) (.dat (.str t)) = some (.dat (.bool false)) := l_neSS
  refine sIf_f (M1 := M) (bVal_eq (eOp_eq (M1 := M) (M2 := M) (eCB_eq (M1 := M) (xs := [.dat R]) (aCons_eq (M1 := M) (eCall_eq (M1 := M) (xs := [.dat (shD p k d l), .dat (.tuple (qs.map qD))]) rfl rr) rfl) rp) (eCB_eq (M1 := M) (xs := [.dat R]) (aCons_eq (M1 := M) (eTup_eq (xs := [.dat (tD d T), .dat (rD ls)]) rfl rfl (show 2 ≤ 100000 by omega) |> fun z => by rw [hR] at z; exact z) rfl) rp) nn)) rfl
/-! ### both rights -/
theorem rows_ok {b0 : Int} {M : Mem} (h : Gd [] b0 M) (hb : b0 < 1000000) : ∃ M', F_xrows_right [.cel 3] M = some (.dat (.bool true), M') ∧ Gd [] (b0 + 100) M' := by
  obtain ⟨p, M1, e1, hp, h1⟩ := xprime_ok h (by omega)
  have pb := pr_b hp
  have hP := six_P p hp
  obtain ⟨pn, rfl⟩ := Int.eq_ofNat_of_zero_le (show 0 ≤ p by omega)
  have hP' : PrP pn := hP
  obtain ⟨n, M2, e2, n1, n2, h2⟩ := next_g (many := 6) h1 (by omega) (by omega) (by omega)
  obtain ⟨xs, M3, e3, xl, xr, xb, h3⟩ := xxs_ok (p := pn) (many := 2 + n) h2 (by omega) (by omega) (by omega) (by omega)
  obtain ⟨r, M4, e4, r1, r2, h4⟩ := next_g (many := (xs.length : Int) / 2) h3 (by omega) (by omega) (by omega)
  obtain ⟨bn, hbn⟩ : ∃ bn : Nat, 1 + r = (bn : Int) := ⟨(1 + r).toNat, by omega⟩
  obtain ⟨van, hv, e5⟩ := two_fitting_ok hP' (M := M4) (xs := xs) (b := bn) xb (by omega) (by omega) (by omega)
  obtain ⟨x, M5, e6, x0, x1, x2, h5⟩ := xone_more_ok (p := pn) (xs := xs) h4 (by omega) (by omega) (by omega)
  have lv := hv.lv
  rw [List.length_take] at lv
  have lx : fLen M3 (.dat (rD xs)) = some (ze (xs.length : Int)) := by
    show some (ze ((xs.map PyData.int).length : Int)) = _
    rw [List.length_map]
  generalize hrr : ((xs.take (xs.length - bn)).map (fun _ => (0 : Int)) ++ (xs.drop (xs.length - bn)).map (fun x => hor pn x van)) = rr at *
  have rl : xs.length = rr.length := by rw [← hrr, List.length_append, List.length_map, List.length_map, List.length_take, List.length_drop]; omega
  have rrb : ∀ z ∈ rr, 0 ≤ z ∧ z < (pn : Int) := by
    intro z hz
    rw [← hrr] at hz
    rcases List.mem_append.mp hz with h | h
    · obtain ⟨_, _, rfl⟩ := List.mem_map.mp h; omega
    · obtain ⟨x, _, rfl⟩ := List.mem_map.mp h; exact hor_lt (by omega) van
  have zp : xs.zip rr = ((xs.take (xs.length - bn)).map fun x => (x, (0 : Int))) ++ ((xs.drop (xs.length - bn)).map fun x => (x, hor pn x van)) := by
    have e : ∀ (a c : List Int), (a ++ c).zip (a.map (fun _ => (0 : Int)) ++ c.map (fun x => hor pn x van)) = (a.map fun x => (x, (0 : Int))) ++ (c.map fun x => (x, hor pn x van)) := by
      intro a c
      induction a with
      | nil =>
        rw [List.nil_append, List.map_nil, List.nil_append, List.map_nil, List.nil_append]
        induction c with
        | nil => rfl
        | cons x c ih => rw [List.map_cons, List.zip_cons_cons, ih, List.map_cons]
      | cons x a ih => rw [List.cons_append, List.map_cons, List.cons_append, List.zip_cons_cons, ih, List.map_cons, List.cons_append]
    have := e (xs.take (xs.length - bn)) (xs.drop (xs.length - bn))
    rw [List.take_append_drop, hrr] at this
    exact this
  have w1 : ((xs.zip rr).filter fun q => !(q.2 == hor pn q.1 (List.replicate (xs.length - 2 * bn + 1) 0))).length ≤ bn := by
    rw [zp, List.filter_append, filt_part _ _ (fun x => by dsimp only; rw [hor_zeros]; simp), List.nil_append]
    refine Nat.le_trans (List.length_filter_le _ _) ?_
    rw [List.length_map, List.length_drop]; omega
  have w2 : ((xs.zip rr).filter fun q => !(q.2 == hor pn q.1 van)).length ≤ bn := by
    rw [zp, List.filter_append, filt_part (fun x => (x, hor pn x van)) _ (fun x => by simp), List.append_nil]
    have e : xs.take (xs.length - bn) = xs.take (xs.length - 2 * bn) ++ (xs.drop (xs.length - 2 * bn)).take bn := by
      have ee := List.take_append_drop (xs.length - 2 * bn) (xs.take (xs.length - bn))
      rw [List.take_take, Nat.min_eq_left (by omega), List.drop_take, show xs.length - bn - (xs.length - 2 * bn) = bn by omega] at ee
      exact ee.symm
    rw [e, List.map_append, List.filter_append, filt_mem _ _ (xs.take (xs.length - 2 * bn)) (fun x hx => by
      dsimp only
      rw [hv.zero hx]; simp), List.nil_append]
    refine Nat.le_trans (List.length_filter_le _ _) ?_
    rw [List.length_map, List.length_take]
    exact Nat.min_le_left _ _
  clear zp
  obtain ⟨a10, a11, t1⟩ := row_turn hp (row := List.replicate (xs.length - 2 * bn + 1) 0) (oneR := List.replicate (xs.length - 2 * bn + 1) 0) (xs := xs) (rs := rr) (x := x) (bn := bn) (M := M5) (v0 := .cel 3) (v3 := ze (bn : Int)) (v4 := .dat (.str (Str.ofString "two"))) (v6 := .dat (rD van)) rfl (by rw [List.length_replicate]; omega) (fun z hz => by rw [List.eq_of_mem_replicate hz]; omega) xr xb (by omega) rl rrb (by rw [List.length_replicate]; omega) x2 ⟨x0, x1⟩ w1 none none
  obtain ⟨b10, b11, t2⟩ := row_turn hp (row := van) (oneR := List.replicate (xs.length - 2 * bn + 1) 0) (xs := xs) (rs := rr) (x := x) (bn := bn) (M := M5) (v0 := .cel 3) (v3 := ze (bn : Int)) (v4 := .dat (.str (Str.ofString "two"))) (v6 := .dat (rD van)) (by rw [List.length_replicate]; omega) (by omega) hv.bv xr xb (by omega) rl rrb (by omega) x2 ⟨x0, x1⟩ w2 a10 a11
  refine ⟨M5, mkF_rtL (h5.len h).symm ?_, h5.up (by omega)⟩
  refine sSeq_nx (M1 := M1) (ρ1 := [some (.cel 3), some (ze pn), none, none, none, none, none, none, none, none, none, none, none, none]) (sAsg_eq (eCall_eq (M1 := M) (xs := [.cel 3]) rfl e1) rfl) ?_
  refine sSeq_nx (M1 := M3) (ρ1 := [some (.cel 3), some (ze pn), some (.dat (rD xs)), none, none, none, none, none, none, none, none, none, none, none]) (sAsg_eq (eCall_eq (M1 := M2) (xs := [.cel 3, ze pn, ze (2 + n)]) (aCons_eq (M1 := M1) rfl (aCons_eq (M1 := M1) rfl (aCons_eq (M1 := M2) (eOp_eq (M1 := M1) (M2 := M2) (x := ze 2) (y := ze n) rfl (eCall_eq (M1 := M1) (xs := [.cel 3, ze 6]) rfl e2) l_add) rfl))) e3) rfl) ?_
  refine sSeq_nx (M1 := M4) (ρ1 := [some (.cel 3), some (ze pn), some (.dat (rD xs)), some (ze (bn : Int)), none, none, none, none, none, none, none, none, none, none]) ?_ ?_
  · rw [← hbn]
    exact sAsg_eq (eOp_eq (M1 := M3) (M2 := M4) (x := ze 1) (y := ze r) rfl (eCall_eq (M1 := M3) (xs := [.cel 3, ze ((xs.length : Int) / 2)]) (aCons_eq (M1 := M3) rfl (aCons_eq (M1 := M3) (eOp_eq (M1 := M3) (M2 := M3) (x := ze (xs.length : Int)) (y := ze 2) (eCB_eq (M1 := M3) (xs := [.dat (rD xs)]) rfl lx) rfl (l_div (by omega) (by omega))) rfl)) e4) l_add) rfl
  refine sSeq_nx (M1 := M4) (ρ1 := [some (.cel 3), some (ze pn), some (.dat (rD xs)), some (ze (bn : Int)), some (.dat (.str (Str.ofString "two"))), some (.dat (rD (List.replicate (xs.length - 2 * bn + 1) 0))), some (.dat (rD van)), some (.dat (rD rr)), none, none, none, none, none, none]) (sAsg_eq (eCall_eq (M1 := M4) (xs := [ze pn, .dat (rD xs), ze (bn : Int)]) rfl e5) rfl) ?_
  refine sSeq_nx (M1 := M5) (ρ1 := [some (.cel 3), some (ze pn), some (.dat (rD xs)), some (ze (bn : Int)), some (.dat (.str (Str.ofString "two"))), some (.dat (rD (List.replicate (xs.length - 2 * bn + 1) 0))), some (.dat (rD van)), some (.dat (rD rr)), some (ze x), none, none, none, none, none]) (sAsg_eq (eCall_eq (M1 := M4) (xs := [.cel 3, ze pn, .dat (rD xs)]) rfl e6) rfl) ?_
  exact sSeq_nx (M1 := M5) (sFor_eq (M1 := M5) (ds := [rD (List.replicate (xs.length - 2 * bn + 1) 0), rD van]) (iDat_t (eTup_eq (xs := [.dat (rD (List.replicate (xs.length - 2 * bn + 1) 0)), .dat (rD van)]) rfl rfl (show 2 ≤ 100000 by omega))) (loop_nx (M1 := M5) rfl t1 (loop_nx (M1 := M5) rfl t2 rfl))) rfl
theorem tables_ok {b0 : Int} {M : Mem} (h : Gd [] b0 M) (hb : b0 < 1000000) : ∃ M', F_xtables_right [.cel 3] M = some (.dat (.bool true), M') ∧ Gd [] (b0 + 100) M' := by
  obtain ⟨p', l, k, d, M1, e1, hp, d1, d2, k1, k2, l1, l2, h1⟩ := xshape_ok (most := 5) h (by omega) (by omega)
  have pb := pr_b hp
  have hP := six_P p' hp
  obtain ⟨p, rfl⟩ : ∃ p : Nat, p' = (p : Int) := ⟨p'.toNat, by omega⟩
  rw [Int.toNat_natCast] at hP
  obtain ⟨w, M2, e2, w1, w2, h2⟩ := next_g (many := (8 - (k : Int)) / 2) h1 (by omega) (by omega) (by omega)
  obtain ⟨bb, hbb⟩ : ∃ bb : Nat, (bb : Int) = 1 + w := ⟨(1 + w).toNat, by omega⟩
  obtain ⟨xs, M3, e3, xl, xr, xb, h3⟩ := xxs_ok (p := p) (many := (k : Int) + 2 * (bb : Int) - 1) h2 (by omega) (by omega) (by omega) (by omega)
  have xln : xs.length = k + 2 * bb - 1 := by omega
  have bpos : 1 ≤ bb := by omega
  obtain ⟨V, hV, ⟨v, rfl⟩, et⟩ := two_read_ok hP pb (l := l) (k := k) (d := d) (b := bb) k1 (by omega) (xs := xs) (M := M3) (by omega) (by omega) xb
  obtain ⟨x, M5, e6, x0, x1, x2, h5⟩ := xone_more_ok (p := p) (xs := xs) h3 (by omega) (by omega) (by omega)
  have vl := hV.lv
  rw [List.length_take] at vl
  have vd : (v ++ [1]).length ≤ d := by omega
  have vk : (v ++ [1]).length ≤ k := by omega
  have fs := twQ_fst (p := p) (d := d) (m := xs.length - bb) (V := v ++ [1]) (xs := xs)
  have wz := wrong_zero (p := p) (d := d) (m := xs.length - bb) (V := v ++ [1]) (xs := xs)
  have wa := wrong_al (m := xs.length - bb) hV vd (by omega) (by omega)
  have ls := len_split (p := p) (d := d) (m := xs.length - bb) (V := v ++ [1]) (xs := xs)
  have qb : ∀ q ∈ twQ p d (xs.length - bb) (v ++ [1]) xs, (0 ≤ q.1 ∧ q.1 < (p : Int)) ∧ q.2.length = d ∧ ∀ z ∈ q.2, 0 ≤ z ∧ z < (p : Int) := by
    intro q hq
    rcases List.mem_append.mp hq with z | z
    · obtain ⟨x, hx, rfl⟩ := List.mem_map.mp z
      exact ⟨xb x (List.mem_of_mem_take hx), List.length_replicate, fun y hy => by rw [List.eq_of_mem_replicate hy]; omega⟩
    · obtain ⟨x, hx, rfl⟩ := List.mem_map.mp z
      exact ⟨xb x (List.mem_of_mem_drop hx), kept_len, kept_b (by omega)⟩
  have z1 := zero_table (p := p) (by omega) k d
  have z2 := al_table (p := p) (d := d) (by omega) vk
  generalize twQ p d (xs.length - bb) (v ++ [1]) xs = qs at *
  generalize hal : alT p (v ++ [1]) = U at *
  subst fs
  rw [List.length_map] at xln ls
  obtain ⟨a10, a11, t1⟩ := tab_turn hP pb (l := l) (bn := bb) k1 k2 (by omega) z1 (q0 := qs) (x := x) (M := M5) (v0 := .cel 3) (v6 := ze (bb : Int)) (v8 := .dat (.str (Str.ofString "two"))) (v9 := .dat (tD d (fun _ _ => 0))) (v10 := .dat (tD d U)) xr qb (by omega) (by omega) x2 ⟨x0, x1⟩ (by rw [List.length_map] at wz; omega) none none
  obtain ⟨b10, b11, t2⟩ := tab_turn hP pb (l := l) (bn := bb) k1 k2 (by omega) z2 (q0 := qs) (x := x) (M := M5) (v0 := .cel 3) (v6 := ze (bb : Int)) (v8 := .dat (.str (Str.ofString "two"))) (v9 := .dat (tD d (fun _ _ => 0))) (v10 := .dat (tD d U)) xr qb (by omega) (by omega) x2 ⟨x0, x1⟩ (by rw [List.length_map] at wa; omega) a10 a11
  refine ⟨M5, mkF_rtL (h5.len h).symm ?_, h5.up (by omega)⟩
  refine sSeq_nx (M1 := M1) (ρ1 := [some (.cel 3), some (.dat (shD p k d l)), none, none, none, none, none, none, none, none, none, none, none, none, none, none, none, none]) (sAsg_eq (eCall_eq (M1 := M) (xs := [.cel 3, ze 5]) rfl e1) rfl) ?_
  refine sSeq_nx (M1 := M1) (ρ1 := [some (.cel 3), some (.dat (shD p k d l)), some (ze p), some (ze (k : Int)), some (ze (d : Int)), some (ze l), none, none, none, none, none, none, none, none, none, none, none, none]) rfl ?_
  refine sSeq_nx (M1 := M2) (ρ1 := [some (.cel 3), some (.dat (shD p k d l)), some (ze p), some (ze (k : Int)), some (ze (d : Int)), some (ze l), some (ze (bb : Int)), none, none, none, none, none, none, none, none, none, none, none]) ?_ ?_
  · rw [hbb]
    exact sAsg_eq (eOp_eq (M1 := M1) (M2 := M2) (x := ze 1) rfl (eCall_eq (M1 := M1) (xs := [.cel 3, ze ((8 - (k : Int)) / 2)]) (aCons_eq (M1 := M1) rfl (aCons_eq (M1 := M1) (eOp_eq (M1 := M1) (M2 := M1) (eOp_eq (M1 := M1) (M2 := M1) (x := ze 8) (y := ze (k : Int)) rfl rfl l_sub) (y := ze 2) rfl (l_div (by omega) (by omega))) rfl)) e2) l_add) rfl
  refine sSeq_nx (M1 := M3) (ρ1 := [some (.cel 3), some (.dat (shD p k d l)), some (ze p), some (ze (k : Int)), some (ze (d : Int)), some (ze l), some (ze (bb : Int)), some (.dat (rD (qs.map Prod.fst))), none, none, none, none, none, none, none, none, none, none]) (sAsg_eq (eCall_eq (M1 := M2) (xs := [.cel 3, ze p, ze ((k : Int) + 2 * (bb : Int) - 1)]) (aCons_eq (M1 := M2) rfl (aCons_eq (M1 := M2) rfl (aCons_eq (M1 := M2) (eOp_eq (M1 := M2) (M2 := M2) (eOp_eq (M1 := M2) (M2 := M2) (x := ze (k : Int)) rfl (eOp_eq (M1 := M2) (M2 := M2) (x := ze 2) (y := ze (bb : Int)) rfl rfl (l_mul (.inl (by omega)))) l_add) (y := ze 1) rfl l_sub) rfl))) e3) rfl) ?_
  refine sSeq_nx (M1 := M3) (ρ1 := [some (.cel 3), some (.dat (shD p k d l)), some (ze p), some (ze (k : Int)), some (ze (d : Int)), some (ze l), some (ze (bb : Int)), some (.dat (rD (qs.map Prod.fst))), some (.dat (.str (Str.ofString "two"))), some (.dat (tD d (fun _ _ => 0))), some (.dat (tD d U)), some (.dat (.tuple ((qs.map Prod.snd).map rD))), none, none, none, none, none, none]) (sAsg_eq (eCall_eq (M1 := M3) (xs := [.dat (shD p k d l), .dat (rD (qs.map Prod.fst)), ze (bb : Int)]) rfl et) rfl) ?_
  refine sSeq_nx (M1 := M5) (ρ1 := [some (.cel 3), some (.dat (shD p k d l)), some (ze p), some (ze (k : Int)), some (ze (d : Int)), some (ze l), some (ze (bb : Int)), some (.dat (rD (qs.map Prod.fst))), some (.dat (.str (Str.ofString "two"))), some (.dat (tD d (fun _ _ => 0))), some (.dat (tD d U)), some (.dat (.tuple ((qs.map Prod.snd).map rD))), some (ze x), none, none, none, none, none]) (sAsg_eq (eCall_eq (M1 := M3) (xs := [.cel 3, ze p, .dat (rD (qs.map Prod.fst))]) rfl e6) rfl) ?_
  exact sSeq_nx (M1 := M5) (sFor_eq (M1 := M5) (ds := [tD d (fun _ _ => 0), tD d U]) (iDat_t (eTup_eq (xs := [.dat (tD d (fun _ _ => 0)), .dat (tD d U)]) rfl rfl (show 2 ≤ 100000 by omega))) (loop_nx (M1 := M5) rfl t1 (loop_nx (M1 := M5) rfl t2 rfl))) rfl
theorem law_ok (ns : List Int) (hn : ns.length ≤ 63) : ∃ M, F_law [.dat (.list (ns.map PyData.int))] [] = some (.dat (.bool true), M) := by
  obtain ⟨M0, e0, h0⟩ := start_g ns hn
  obtain ⟨ρ', M', e, o2, rfl, hG⟩ := loop_inv (g := gNm 2) (s := Lb_law_2_1) (fun n ρ M => ∃ o2, ρ = [some (.dat (.list (ns.map PyData.int))), some (.cel 3), o2] ∧ Gd [] (200 * n) M) (rangeD 0 2) 0 [some (.dat (.list (ns.map PyData.int))), some (.cel 3), none] M0 ⟨none, rfl, h0.up (by omega)⟩ (by
    rintro i x ρ M hx ⟨o2, rfl, hG⟩
    have hi : i < (rangeD 0 2).length := (List.getElem?_eq_some_iff.mp hx).1
    rw [rangeD_len] at hi
    obtain ⟨M1, e1, h1⟩ := rows_ok hG (by omega)
    obtain ⟨M2, e2, h2⟩ := tables_ok h1 (by omega)
    refine ⟨_, _, [some (.dat (.list (ns.map PyData.int))), some (.cel 3), some (.dat x)], M2, rfl, ?_, _, rfl, h2.up (by push_cast; omega)⟩
    refine sIf_f (M1 := M2) (bOr_e (M1 := M1) (v := false) (bNot_eq (v := true) (bVal_eq (eCall_eq (M1 := M) (xs := [.cel 3]) rfl e1))) ?_) rfl
    rw [if_neg (by decide)]
    exact bNot_eq (v := true) (bVal_eq (eCall_eq (M1 := M1) (xs := [.cel 3]) rfl e2)))
  refine ⟨_, mkF_rt (d := .bool true) (M1 := M') ?_⟩
  refine sSeq_nx (M1 := M0) (ρ1 := [some (.dat (.list (ns.map PyData.int))), some (.cel 3), none]) (sAsg_eq (eCall_eq (M1 := []) (xs := [.dat (.list (ns.map PyData.int))]) rfl e0) rfl) ?_
  exact sSeq_nx (M1 := M') (sFor_eq (M1 := M0) (ds := rangeD 0 2) rfl e) rfl

end Lk38

open PySem PySem.W PyProof.Rows
set_option maxHeartbeats 0 in
theorem PySem.Challenge.cw_toldpieces_k38_whole_one_asked_fewer_holds : PySem.Challenge.rw_toldpieces_k38_whole_one_asked_fewer.Holds := by
  w_on; o_law; k_head; (case hw => w_witness2)
  k_fill
  refine Sm.walk_G (l := PySem.Challenge.rw_toldpieces_k38_whole_one_asked_fewer) (n := 63) (k := 14)
    (x := "_law_script") (f := Lk38.F_law) rfl (by decide) rfl ⟨rfl, by decide, by decide⟩
    (fun w h Y => PySem.W.kIn_of Y) ?F (fun ns hl hb => Lk38.law_ok ns hl)
  case F =>
    intro w mg fa h KX G hmg
    refine' Lk38.all_mk KX G hmg ?a0 ?l0 ?c0 ?k0 ?a1 ?l1 ?c1 ?k1 ?a2 ?l2 ?c2 ?k2 ?a3 ?l3 ?c3 ?k3 ?a4 ?l4 ?c4 ?k4 ?a5 ?l5 ?c5 ?k5 ?a6 ?l6 ?c6 ?k6 ?a7 ?l7 ?c7 ?k7 ?a8 ?l8 ?c8 ?k8 ?a9 ?l9 ?c9 ?k9 ?a10 ?l10 ?c10 ?k10 ?a11 ?l11 ?c11 ?k11 ?a12 ?l12 ?c12 ?k12 ?a13 ?l13 ?c13 ?k13 ?a14 ?l14 ?c14 ?k14 ?a15 ?l15 ?c15 ?k15 ?a16 ?l16 ?c16 ?k16 ?a17 ?l17 ?c17 ?k17 ?a18 ?l18 ?c18 ?k18 ?a19 ?l19 ?c19 ?k19 ?a20 ?l20 ?c20 ?k20 ?a21 ?l21 ?c21 ?k21 ?a22 ?l22 ?c22 ?k22 ?a23 ?l23 ?c23 ?k23 ?a24 ?l24 ?c24 ?k24 ?a25 ?l25 ?c25 ?k25 ?a26 ?l26 ?c26 ?k26 ?a27 ?l27 ?c27 ?k27 ?a28 ?l28 ?c28 ?k28 ?a29 ?l29 ?c29 ?k29 ?a30 ?l30 ?c30 ?k30 ?a31 ?l31 ?c31 ?k31 ?a32 ?l32 ?c32 ?k32 ?a33 ?l33 ?c33 ?k33 ?z_all ?z_any ?z_bool ?z_int ?z_isinstance ?z_len ?z_list ?z_range ?z_repr ?z_reversed ?z_sorted ?z_tuple ?z_zip
    (case a0 => k_is); (case l0 => k_is); (case c0 => k_is); (case k0 => k_is); (case a1 => k_is); (case l1 => k_is); (case c1 => k_is); (case k1 => k_is); (case a2 => k_is); (case l2 => k_is); (case c2 => k_is); (case k2 => k_is); (case a3 => k_is); (case l3 => k_is); (case c3 => k_is); (case k3 => k_is); (case a4 => k_is); (case l4 => k_is); (case c4 => k_is); (case k4 => k_is); (case a5 => k_is); (case l5 => k_is); (case c5 => k_is); (case k5 => k_is); (case a6 => k_is); (case l6 => k_is); (case c6 => k_is); (case k6 => k_is); (case a7 => k_is); (case l7 => k_is); (case c7 => k_is); (case k7 => k_is); (case a8 => k_is); (case l8 => k_is); (case c8 => k_is); (case k8 => k_is); (case a9 => k_is); (case l9 => k_is); (case c9 => k_is); (case k9 => k_is); (case a10 => k_is); (case l10 => k_is); (case c10 => k_is); (case k10 => k_is); (case a11 => k_is); (case l11 => k_is); (case c11 => k_is); (case k11 => k_is); (case a12 => k_is); (case l12 => k_is); (case c12 => k_is); (case k12 => k_is); (case a13 => k_is); (case l13 => k_is); (case c13 => k_is); (case k13 => k_is); (case a14 => k_is); (case l14 => k_is); (case c14 => k_is); (case k14 => k_is); (case a15 => k_is); (case l15 => k_is); (case c15 => k_is); (case k15 => k_is); (case a16 => k_is); (case l16 => k_is); (case c16 => k_is); (case k16 => k_is); (case a17 => k_is); (case l17 => k_is); (case c17 => k_is); (case k17 => k_is); (case a18 => k_is); (case l18 => k_is); (case c18 => k_is); (case k18 => k_is); (case a19 => k_is); (case l19 => k_is); (case c19 => k_is); (case k19 => k_is); (case a20 => k_is); (case l20 => k_is); (case c20 => k_is); (case k20 => k_is); (case a21 => k_is); (case l21 => k_is); (case c21 => k_is); (case k21 => k_is); (case a22 => k_is); (case l22 => k_is); (case c22 => k_is); (case k22 => k_is); (case a23 => k_is); (case l23 => k_is); (case c23 => k_is); (case k23 => k_is); (case a24 => k_is); (case l24 => k_is); (case c24 => k_is); (case k24 => k_is); (case a25 => k_is); (case l25 => k_is); (case c25 => k_is); (case k25 => k_is); (case a26 => k_is); (case l26 => k_is); (case c26 => k_is); (case k26 => k_is); (case a27 => k_is); (case l27 => k_is); (case c27 => k_is); (case k27 => k_is); (case a28 => k_is); (case l28 => k_is); (case c28 => k_is); (case k28 => k_is); (case a29 => k_is); (case l29 => k_is); (case c29 => k_is); (case k29 => k_is); (case a30 => k_is); (case l30 => k_is); (case c30 => k_is); (case k30 => k_is); (case a31 => k_is); (case l31 => k_is); (case c31 => k_is); (case k31 => k_is); (case a32 => k_is); (case l32 => k_is); (case c32 => k_is); (case k32 => k_is); (case a33 => k_is); (case l33 => k_is); (case c33 => k_is); (case k33 => k_is); (case z_all => k_is); (case z_any => k_is); (case z_bool => k_is); (case z_int => k_is); (case z_isinstance => k_is); (case z_len => k_is); (case z_list => k_is); (case z_range => k_is); (case z_repr => k_is); (case z_reversed => k_is); (case z_sorted => k_is); (case z_tuple => k_is); (case z_zip => k_is)
