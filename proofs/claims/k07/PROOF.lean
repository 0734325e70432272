import PyProof.Rows.All
import Wide.All
import OpenK.AllK
import Wide.FinOn
import HandS.ForMost
import HandS.ForExc
import HandS.Wide
import HandS.IsInst
import HandS.Zip
import HandS.Walk
import PyProof.ReprRoads
import HandS.Style
import PyProof.ReprBulk
import PySem.Challenge.RW_dialpack_k07_ways_and_joined_turns
set_option Elab.async false
set_option linter.all false
set_option maxRecDepth 100000
set_option maxHeartbeats 4000000
namespace Dl
open PySem PySem.Spec PyProof.Rows L2
abbrev Slots := L2.St

/-! ## what a slot is known to hold -/
inductive Rv where
  | any
  | mu
  | d (x : PyData)
  | cell (a : Addr)
  | tup (xs : List Rv)
  | raw (v : V)

abbrev Mem := List (Addr × (List Rv → Prop))
abbrev Frg := PySem.W.Frag
/-- just this content -/
def Is (rs : List Rv) : List Rv → Prop := fun x => x = rs

mutual
inductive RvOk (K : Frg) (B : Hp) : V → Rv → Prop
  | any (v : V) : RvOk K B v .any
  | mu (v : V) : RvOk K B v .mu
  | d {v : V} {x : PyData} : Dp K B v x → RvOk K B v (.d x)
  | cell (a : Addr) : RvOk K B (.ref a) (.cell a)
  | raw (v : V) : RvOk K B v (.raw v)
  | tup {a : Addr} {xs : List V} {rs : List Rv} : SqT K B a xs → RvAll K B xs rs → RvOk K B (.ref a) (.tup rs)
inductive RvAll (K : Frg) (B : Hp) : List V → List Rv → Prop
  | nil : RvAll K B [] []
  | cons {v : V} {vs : List V} {r : Rv} {rs : List Rv} : RvOk K B v r → RvAll K B vs rs → RvAll K B (v :: vs) (r :: rs)
end

theorem sq_mono {K : Frg} {H H' : Hp} (e : Same H H') {a : Addr} {xs : List V} (h : SqT K H a xs) : SqT K H' a xs := by
  rcases h with (h | ⟨o, h⟩) | h
  · exact .inl (.inl (e _ _ h))
  · exact .inl (.inr ⟨o, e _ _ h⟩)
  · exact .inr h
mutual
theorem dp_mono {K : Frg} {H H' : Hp} (e : Same H H') : ∀ {v : V} (d : PyData), Dp K H v d → Dp K H' v d
  | _, _, .non => .non
  | _, _, .bl b => .bl b
  | _, _, .int i => .int i
  | _, _, .str x => .str x
  | _, _, .lst h a => .lst (e.seq h) (dpAll_mono e _ a)
  | _, _, .tup h a => .tup (sq_mono e h) (dpAll_mono e _ a)
theorem dpAll_mono {K : Frg} {H H' : Hp} (e : Same H H') : ∀ {vs : List V} (ds : List PyData), DpAll K H vs ds → DpAll K H' vs ds
  | _, _, .nil => .nil
  | _, _, .cons h a => .cons (dp_mono e _ h) (dpAll_mono e _ a)
end
mutual
theorem rv_mono {K : Frg} {H H' : Hp} (e : Same H H') : ∀ {v : V} {r : Rv}, RvOk K H v r → RvOk K H' v r
  | _, _, .any v => .any v
  | _, _, .mu v => .mu v
  | _, _, .d h => .d (dp_mono e _ h)
  | _, _, .cell a => .cell a
  | _, _, .raw v => .raw v
  | _, _, .tup h a => .tup (sq_mono e h) (rvAll_mono e a)
theorem rvAll_mono {K : Frg} {H H' : Hp} (e : Same H H') : ∀ {vs : List V} {rs : List Rv}, RvAll K H vs rs → RvAll K H' vs rs
  | _, _, .nil => .nil
  | _, _, .cons h a => .cons (rv_mono e h) (rvAll_mono e a)
end
theorem RvAll.length {K : Frg} {B : Hp} : ∀ {vs : List V} {rs : List Rv}, RvAll K B vs rs → vs.length = rs.length
  | _, _, .nil => rfl
  | _, _, .cons _ a => by simp [RvAll.length a]
theorem DpAll.len {K : Frg} {B : Hp} : ∀ {vs : List V} {rs : List PyData}, DpAll K B vs rs → vs.length = rs.length
  | _, _, .nil => rfl
  | _, _, .cons _ a => by simp [DpAll.len a]
theorem RvAll.get {K : Frg} {B : Hp} : ∀ {vs : List V} {rs : List Rv} (i : Nat) (r : Rv), RvAll K B vs rs → rs[i]? = some r → ∃ v, vs[i]? = some v ∧ RvOk K B v r
  | _, _, i, _, .nil, h => by simp at h
  | _, _, 0, _, .cons h _, e => by simp at e; subst e; exact ⟨_, rfl, h⟩
  | _, _, i + 1, r, .cons _ a, e => by
    obtain ⟨v, h1, h2⟩ := RvAll.get i r a (by simpa using e)
    exact ⟨v, by simpa using h1, h2⟩
theorem DpAll.get {K : Frg} {B : Hp} : ∀ {vs : List V} {rs : List PyData} (i : Nat) (r : PyData), DpAll K B vs rs → rs[i]? = some r → ∃ v, vs[i]? = some v ∧ Dp K B v r
  | _, _, i, _, .nil, h => by simp at h
  | _, _, 0, _, .cons h _, e => by simp at e; subst e; exact ⟨_, rfl, h⟩
  | _, _, i + 1, r, .cons _ a, e => by
    obtain ⟨v, h1, h2⟩ := DpAll.get i r a (by simpa using e)
    exact ⟨v, by simpa using h1, h2⟩
theorem RvAll.app {K : Frg} {B : Hp} : ∀ {vs ws : List V} {rs qs : List Rv}, RvAll K B vs rs → RvAll K B ws qs → RvAll K B (vs ++ ws) (rs ++ qs)
  | _, _, _, _, .nil, h => h
  | _, _, _, _, .cons h a, b => .cons h (RvAll.app a b)
theorem DpAll.app {K : Frg} {B : Hp} : ∀ {vs ws : List V} {rs qs : List PyData}, DpAll K B vs rs → DpAll K B ws qs → DpAll K B (vs ++ ws) (rs ++ qs)
  | _, _, _, _, .nil, h => h
  | _, _, _, _, .cons h a, b => .cons h (DpAll.app a b)
/-- data only -/
theorem RvAll.data {K : Frg} {B : Hp} : ∀ {vs : List V} {ds : List PyData}, RvAll K B vs (ds.map Rv.d) → DpAll K B vs ds
  | _, [], h => by cases h; exact .nil
  | _, d :: ds, h => by
    cases h with
    | cons h1 h2 =>
      cases h1 with
      | d h1 => exact .cons h1 (RvAll.data h2)
theorem RvAll.ofData {K : Frg} {B : Hp} : ∀ {vs : List V} {ds : List PyData}, DpAll K B vs ds → RvAll K B vs (ds.map Rv.d)
  | _, _, .nil => .nil
  | _, _, .cons h a => .cons (.d h) (RvAll.ofData a)

/-! ## slots -/
inductive SlotOk (K : Frg) (B : Hp) : Option V → Rv → Prop
  | none1 : SlotOk K B none .any
  | none2 : SlotOk K B none .mu
  | some {v : V} {r : Rv} : RvOk K B v r → SlotOk K B (some v) r
abbrev EnvOk (K : Frg) (B : Hp) : Slots → List Rv → Prop := Paired (SlotOk K B)
theorem env_mono {K : Frg} {H H' : Hp} (e : Same H H') {σ : Slots} {ρ : List Rv} (h : EnvOk K H σ ρ) : EnvOk K H' σ ρ :=
  Paired.mapP h fun o r q => by
    cases q with
    | none1 => exact .none1
    | none2 => exact .none2
    | some q => exact .some (rv_mono e q)
def Rv.isAny : Rv → Bool
  | .any => true
  | .mu => true
  | _ => false
theorem env_get {K : Frg} {B : Hp} : ∀ {σ : Slots} {ρ : List Rv} (i : Nat) {r : Rv}, EnvOk K B σ ρ → ρ[i]? = some r → r.isAny = false → ∃ v, σ[i]? = some (some v) ∧ RvOk K B v r
  | _, _, i, _, .nil, h, _ => by simp at h
  | _, _, 0, _, .cons h _, e, n => by
    simp at e
    subst e
    cases h with
    | none1 => cases n
    | none2 => cases n
    | some h => exact ⟨_, rfl, h⟩
  | _, _, i + 1, r, .cons _ a, e, n => by
    obtain ⟨v, h1, h2⟩ := env_get i (r := r) a (by simpa using e) n
    exact ⟨v, by simpa using h1, h2⟩
theorem env_set {K : Frg} {B : Hp} {o : Option V} {r : Rv} (q : SlotOk K B o r) : ∀ {σ : Slots} {ρ : List Rv} (i : Nat), EnvOk K B σ ρ → EnvOk K B (σ.set i o) (ρ.set i r)
  | _, _, _, .nil => .nil
  | _, _, 0, .cons _ t => .cons q t
  | _, _, i + 1, .cons h t => .cons h (env_set q i t)
theorem env_len {K : Frg} {B : Hp} {σ : Slots} {ρ : List Rv} (h : EnvOk K B σ ρ) : σ.length = ρ.length := Paired.length h
def start (n : Nat) (rs : List Rv) (mus : List Rv) : List Rv := rs ++ mus

/-! ## the heap: what is known for good (B), what may change (M), the rest -/
structure Ok (K : Frg) (B H : Hp) (M : Mem) : Prop where
  ext : Same B H
  mem : ∀ p ∈ M, B p.1 = none ∧ ∃ xs rs, H p.1 = some (.lst xs) ∧ RvAll K B xs rs ∧ p.2 rs
  nd : (M.map (·.1)).Nodup
structure Fr (B H : Hp) (M : Mem) (B' H' : Hp) (M' : Mem) : Prop where
  ex : Same B B'
  out : ∀ a o, H a = some o → B a = none → (∀ p ∈ M, p.1 ≠ a) → H' a = some o ∧ B' a = none
  new : ∀ p ∈ M', (∃ q ∈ M, q.1 = p.1) ∨ H p.1 = none
  grow : ∀ a, H' a = none → H a = none
theorem Fr.refl {B H : Hp} {M : Mem} : Fr B H M B H M := ⟨Same.refl _, fun _ _ h b _ => ⟨h, b⟩, fun p hp => .inl ⟨p, hp, rfl⟩, fun _ h => h⟩
theorem Fr.trans {B H B1 H1 B2 H2 : Hp} {M M1 M2 : Mem} (a : Fr B H M B1 H1 M1) (b : Fr B1 H1 M1 B2 H2 M2) : Fr B H M B2 H2 M2 where
  ex := a.ex.trans b.ex
  out := fun x o h hb hm => by
    obtain ⟨h1, b1⟩ := a.out x o h hb hm
    refine b.out x o h1 b1 fun p hp e => ?_
    rcases a.new p hp with ⟨q, hq, e2⟩ | e2
    · exact hm q hq (e2.trans e)
    · rw [e, h] at e2; cases e2
  new := fun p hp => by
    rcases b.new p hp with ⟨q, hq, e⟩ | e
    · rcases a.new q hq with ⟨q2, h2, e2⟩ | e2
      · exact .inl ⟨q2, h2, e2.trans e⟩
      · exact .inr (by rw [← e]; exact e2)
    · exact .inr (a.grow _ e)
  grow := fun x h => a.grow x (b.grow x h)

/-! ## exceptions in the air -/
structure EV where
  cls : Value
  fs : Option (List (Str × PyData))
inductive EvOk (K : Frg) (B H : Hp) (x : EV) : Value → Option Addr → Prop
  | none : x.fs = none → EvOk K B H x x.cls none
  | some {d : Addr} {fs : List (Str × V)} {ds : List (Str × PyData)} : x.fs = some ds → H d = some (.xd fs) → fs.map (·.1) = ds.map (·.1) → DpAll K B (fs.map (·.2)) (ds.map (·.2)) → EvOk K B H x x.cls (some d)
/-- the wish about exceptions: what they are, the slots, the memory -/
abbrev Xi := EV → List Rv → Mem → Prop
def X0 : Xi := fun _ _ _ => False
def PostX (K : Frg) (B H : Hp) (M : Mem) (Ξ : Xi) : WX := fun cls d σ' H' =>
  ∃ B' M' ρ' x, Ok K B' H' M' ∧ Fr B H M B' H' M' ∧ EnvOk K B' σ' ρ' ∧ EvOk K B' H' x cls d ∧ Ξ x ρ' M'
theorem postX_after {K : Frg} {B H B1 H1 : Hp} {M M1 : Mem} {Ξ : Xi} (f : Fr B H M B1 H1 M1) : ∀ c d σ H', PostX K B1 H1 M1 Ξ c d σ H' → PostX K B H M Ξ c d σ H' :=
  fun c d σ H' ⟨B', M', ρ', x, o, g, e, k, q⟩ => ⟨B', M', ρ', x, o, f.trans g, e, k, q⟩

/-! ## judgements -/
abbrev Pst := Rv → Mem → Prop
def PostE (K : Frg) (B H : Hp) (M : Mem) (Φ : Pst) : VK := fun v H' => ∃ B' M' r, Ok K B' H' M' ∧ Fr B H M B' H' M' ∧ RvOk K B' v r ∧ Φ r M'
theorem postE_after {K : Frg} {B H B1 H1 : Hp} {M M1 : Mem} {Φ : Pst} (f : Fr B H M B1 H1 M1) {v : V} {H' : Hp} : PostE K B1 H1 M1 Φ v H' → PostE K B H M Φ v H' :=
  fun ⟨B', M', r, o, g, e, q⟩ => ⟨B', M', r, o, f.trans g, e, q⟩
theorem postE_mono {K : Frg} {B H : Hp} {M : Mem} {Φ Φ' : Pst} (h : ∀ r M', Φ r M' → Φ' r M') {v : V} {H' : Hp} : PostE K B H M Φ v H' → PostE K B H M Φ' v H' :=
  fun ⟨B', M', r, o, g, e, q⟩ => ⟨B', M', r, o, g, e, h _ _ q⟩
theorem post_same {K : Frg} {B H : Hp} {M : Mem} {Φ : Pst} {v : V} {r : Rv} (ok : Ok K B H M) (hr : RvOk K B v r) (h : Φ r M) : PostE K B H M Φ v H := ⟨B, M, r, ok, .refl, hr, h⟩
theorem sub_none {B H : Hp} (e : Same B H) {p : Addr} (h : H p = none) : B p = none := e.free h
theorem same_new {H : Hp} {p : Addr} {o : HO} (h : H p = none) : Same H (upd H p o) := fun a u e => by
  rw [upd_ne (ne_of_none e h)]
  exact e
/-- a new object that will not change -/
theorem ok_frz {K : Frg} {B H : Hp} {M : Mem} {p : Addr} {o : HO} (ok : Ok K B H M) (hp : H p = none) : Ok K (upd B p o) (upd H p o) M ∧ Fr B H M (upd B p o) (upd H p o) M := by
  have bp := sub_none ok.ext hp
  have ne : ∀ q ∈ M, q.1 ≠ p := fun q hq e => by
    obtain ⟨_, xs, rs, h, _⟩ := ok.mem q hq
    rw [e, hp] at h; cases h
  refine ⟨⟨fun a u e => ?_, fun q hq => ?_, ok.nd⟩, ⟨same_new bp, fun a u h b _ => ?_, fun q hq => .inl ⟨q, hq, rfl⟩, fun a h => ?_⟩⟩
  · by_cases ha : a = p
    · subst ha; rw [upd_same] at e ⊢; exact e
    · rw [upd_ne ha] at e ⊢; exact ok.ext a u e
  · obtain ⟨h1, xs, rs, h2, h3, h4⟩ := ok.mem q hq
    exact ⟨by rw [upd_ne (ne q hq)]; exact h1, xs, rs, by rw [upd_ne (ne q hq)]; exact h2, rvAll_mono (same_new bp) h3, h4⟩
  · have ha := ne_of_none h hp
    exact ⟨by rw [upd_ne ha]; exact h, by rw [upd_ne ha]; exact b⟩
  · by_cases ha : a = p
    · subst ha; exact hp
    · rw [upd_ne ha] at h; exact h
/-- a new list that may change -/
theorem ok_own {K : Frg} {B H : Hp} {M : Mem} {p : Addr} {xs : List V} {rs : List Rv} {P : List Rv → Prop} (ok : Ok K B H M) (hp : H p = none) (hx : RvAll K B xs rs) (hP : P rs) :
    Ok K B (upd H p (.lst xs)) ((p, P) :: M) ∧ Fr B H M B (upd H p (.lst xs)) ((p, P) :: M) := by
  have bp := sub_none ok.ext hp
  have ne : ∀ q ∈ M, q.1 ≠ p := fun q hq e => by
    obtain ⟨_, xs, rs, h, _⟩ := ok.mem q hq
    rw [e, hp] at h; cases h
  refine ⟨⟨fun a u e => ?_, fun q hq => ?_, ?_⟩, ⟨Same.refl _, fun a u h b _ => ?_, fun q hq => ?_, fun a h => ?_⟩⟩
  · have ha : a ≠ p := ne_of_none e bp
    rw [upd_ne ha]; exact ok.ext a u e
  · rcases List.mem_cons.mp hq with rfl | hq
    · exact ⟨bp, xs, rs, upd_same, hx, hP⟩
    · obtain ⟨h1, xs, rs, h2, h3, h4⟩ := ok.mem q hq
      exact ⟨h1, xs, rs, by rw [upd_ne (ne q hq)]; exact h2, h3, h4⟩
  · rw [List.map_cons, List.nodup_cons]
    refine ⟨fun hm => ?_, ok.nd⟩
    obtain ⟨q, hq, e⟩ := List.mem_map.mp hm
    exact ne q hq e
  · have ha := ne_of_none h hp
    exact ⟨by rw [upd_ne ha]; exact h, b⟩
  · rcases List.mem_cons.mp hq with rfl | hq
    · exact .inr hp
    · exact .inl ⟨q, hq, rfl⟩
  · by_cases ha : a = p
    · subst ha; exact hp
    · rw [upd_ne ha] at h; exact h
/-- a list that may change is changed -/
theorem ok_mut {K : Frg} {B H : Hp} {M1 M2 : Mem} {a : Addr} {P P' : List Rv → Prop} {xs : List V} {rs : List Rv} (ok : Ok K B H (M1 ++ (a, P) :: M2)) (hx : RvAll K B xs rs) (hP : P' rs) :
    Ok K B (upd H a (.lst xs)) (M1 ++ (a, P') :: M2) ∧ Fr B H (M1 ++ (a, P) :: M2) B (upd H a (.lst xs)) (M1 ++ (a, P') :: M2) := by
  have nd := ok.nd
  rw [List.map_append, List.map_cons] at nd
  have n1 := List.nodup_append.mp nd
  have n2 := List.nodup_cons.mp n1.2.1
  have na1 : ∀ q ∈ M1, q.1 ≠ a := fun q hq e => n1.2.2 q.1 (List.mem_map.mpr ⟨q, hq, rfl⟩) a (by simp) e
  have na2 : ∀ q ∈ M2, q.1 ≠ a := fun q hq e => n2.1 (List.mem_map.mpr ⟨q, hq, e⟩)
  have hm : (a, P) ∈ M1 ++ (a, P) :: M2 := by simp
  obtain ⟨ba, xs0, rs0, ha, _, _⟩ := ok.mem _ hm
  have keep : ∀ q, (q ∈ M1 ∨ q ∈ M2) → q.1 ≠ a ∧ q ∈ M1 ++ (a, P) :: M2 := fun q hq => by
    rcases hq with hq | hq
    · exact ⟨na1 q hq, by simp [hq]⟩
    · exact ⟨na2 q hq, by simp [hq]⟩
  refine ⟨⟨fun x u e => ?_, fun q hq => ?_, ?_⟩, ⟨Same.refl _, fun x u h b hn => ?_, fun q hq => ?_, fun x h => ?_⟩⟩
  · have hx : x ≠ a := ne_of_none e ba
    rw [upd_ne hx]; exact ok.ext x u e
  · have hc : q = (a, P') ∨ (q ∈ M1 ∨ q ∈ M2) := by
      rcases List.mem_append.mp hq with h | h
      · exact .inr (.inl h)
      · rcases List.mem_cons.mp h with h | h
        · exact .inl h
        · exact .inr (.inr h)
    rcases hc with rfl | hc
    · exact ⟨ba, xs, rs, upd_same, hx, hP⟩
    · obtain ⟨k1, k2⟩ := keep q hc
      obtain ⟨h1, xs, rs, h2, h3, h4⟩ := ok.mem q k2
      exact ⟨h1, xs, rs, by rw [upd_ne k1]; exact h2, h3, h4⟩
  · rw [List.map_append, List.map_cons]; exact nd
  · have hx : x ≠ a := fun e => hn _ hm e.symm
    exact ⟨by rw [upd_ne hx]; exact h, b⟩
  · rcases List.mem_append.mp hq with h | h
    · exact .inl ⟨q, by simp [h], rfl⟩
    · rcases List.mem_cons.mp h with h | h
      · exact .inl ⟨_, hm, by rw [h]⟩
      · exact .inl ⟨q, by simp [h], rfl⟩
  · by_cases ha' : x = a
    · subst ha'; rw [upd_same] at h; cases h
    · rw [upd_ne ha'] at h; exact h
/-- a list that will not change any more -/
theorem ok_freeze {K : Frg} {B H : Hp} {M1 M2 : Mem} {a : Addr} {P : List Rv → Prop} (ok : Ok K B H (M1 ++ (a, P) :: M2)) :
    ∃ xs rs, RvAll K B xs rs ∧ P rs ∧ Ok K (upd B a (.lst xs)) H (M1 ++ M2) ∧ Fr B H (M1 ++ (a, P) :: M2) (upd B a (.lst xs)) H (M1 ++ M2) := by
  have nd := ok.nd
  rw [List.map_append, List.map_cons] at nd
  have n1 := List.nodup_append.mp nd
  have n2 := List.nodup_cons.mp n1.2.1
  have na1 : ∀ q ∈ M1, q.1 ≠ a := fun q hq e => n1.2.2 q.1 (List.mem_map.mpr ⟨q, hq, rfl⟩) a (by simp) e
  have na2 : ∀ q ∈ M2, q.1 ≠ a := fun q hq e => n2.1 (List.mem_map.mpr ⟨q, hq, e⟩)
  have hm : (a, P) ∈ M1 ++ (a, P) :: M2 := by simp
  obtain ⟨ba, xs, rs, ha, hx, hP⟩ := ok.mem _ hm
  refine ⟨xs, rs, hx, hP, ⟨fun x u e => ?_, fun q hq => ?_, ?_⟩, ⟨same_new ba, fun x u h b hn => ?_, fun q hq => ?_, fun x h => h⟩⟩
  · by_cases e2 : x = a
    · subst e2; rw [upd_same] at e; cases e; exact ha
    · rw [upd_ne e2] at e; exact ok.ext x u e
  · have hc : q.1 ≠ a ∧ q ∈ M1 ++ (a, P) :: M2 := by
      rcases List.mem_append.mp hq with h | h
      · exact ⟨na1 q h, by simp [h]⟩
      · exact ⟨na2 q h, by simp [h]⟩
    obtain ⟨h1, xs', rs', h2, h3, h4⟩ := ok.mem q hc.2
    exact ⟨by rw [upd_ne hc.1]; exact h1, xs', rs', h2, rvAll_mono (same_new ba) h3, h4⟩
  · rw [List.map_append]
    exact nd.sublist (List.Sublist.append_left (List.sublist_cons_self _ _) _)
  · have hx : x ≠ a := fun e => hn _ hm e.symm
    exact ⟨h, by rw [upd_ne hx]; exact b⟩
  · rcases List.mem_append.mp hq with h | h
    · exact .inl ⟨q, by simp [h], rfl⟩
    · exact .inl ⟨q, by simp [h], rfl⟩
theorem post_frz {K : Frg} {B H : Hp} {M : Mem} {Φ : Pst} {p : Addr} {o : HO} {r : Rv} (ok : Ok K B H M) (hp : H p = none) (hr : RvOk K (upd B p o) (.ref p) r) (h : Φ r M) : PostE K B H M Φ (.ref p) (upd H p o) :=
  ⟨_, M, r, (ok_frz ok hp).1, (ok_frz ok hp).2, hr, h⟩
theorem post_own {K : Frg} {B H : Hp} {M : Mem} {Φ : Pst} {p : Addr} {xs : List V} {rs : List Rv} {P : List Rv → Prop} (ok : Ok K B H M) (hp : H p = none) (hx : RvAll K B xs rs) (hP : P rs) (h : Φ (.cell p) ((p, P) :: M)) :
    PostE K B H M Φ (.ref p) (upd H p (.lst xs)) :=
  ⟨_, _, _, (ok_own ok hp hx hP).1, (ok_own ok hp hx hP).2, .cell p, h⟩

section
variable (X : Cx)
/-- what an expression does, by its own run -/
def eS (e : Expr) : TE := fun σ H Q => ∀ (pins : List (Addr × Obj)) (s : Shared), Inv X pins σ H s → wpAny (model X.prog X.w) X.A (eval e X.env) (EP X pins σ Q) X.xe s
def tS (e : Expr) : TT := fun σ H Q => ∀ (pins : List (Addr × Obj)) (s : Shared), Inv X pins σ H s → wpAny (model X.prog X.w) X.A (isTrue e X.env (eval e X.env)) (TP X pins σ Q) X.xe s
def wS (e : Expr) : TT := fun σ H Q => ∀ (whole : Sem Value) (pins : List (Addr × Obj)) (s : Shared), Inv X pins σ H s → wpAny (model X.prog X.w) X.A (isTrue e X.env whole) (TP X pins σ Q) X.xe s
def aS (es : List Expr) : TA := fun σ H Q => ∀ (pos : Pos) (pins : List (Addr × Obj)) (s : Shared), Inv X pins σ H s → wpAny (model X.prog X.w) X.A (spliced (backTo pos (starEach es X.env))) (AP X pins σ Q) X.xe s
def sS (st : Stmt) : TS := fun D σ H => ∀ (pins : List (Addr × Obj)) (s : Shared), Inv X pins σ H s → wpAny (model X.prog X.w) X.A (exec st X.env) (SP X pins D) X.xe s
def ssS (st : List Stmt) : TS := fun D σ H => ∀ (pins : List (Addr × Obj)) (s : Shared), Inv X pins σ H s → wpAny (model X.prog X.w) X.A (execs st X.env) (SP X pins D) X.xe s
def oS (f : Value → Value → Sem Value) : R2 := fun x y H Q => ∀ (pins : List (Addr × Obj)) (s : Shared) (σ : Slots) (v u : Value), Inv X pins σ H s → RelV x v → RelV y u → wpAny (model X.prog X.w) X.A (f v u) (EP X pins σ Q) X.xe s
def uS (f : Value → Sem Value) : V → Hp → VK → Prop := fun x H Q => ∀ (pins : List (Addr × Obj)) (s : Shared) (σ : Slots) (v : Value), Inv X pins σ H s → RelV x v → wpAny (model X.prog X.w) X.A (f v) (EP X pins σ Q) X.xe s
def cS (f : Value) : List V → Hp → VK → Prop := fun xs H Q => ∀ (pins : List (Addr × Obj)) (s : Shared) (σ : Slots) (us : List Value), Inv X pins σ H s → Vals xs us → wpAny (model X.prog X.w) X.A (call f us) (EP X pins σ Q) X.xe s
variable {X}
theorem pe_S {e : Expr} : PE X e (eS X e) := ⟨fun pins s _ _ _ I h => h pins s I⟩
theorem pt_S {e : Expr} : PT X e (tS X e) := ⟨fun pins s _ _ _ I h => h pins s I⟩
theorem pw_S {e : Expr} : PW X e (wS X e) := ⟨fun wh pins s _ _ _ I h => h wh pins s I⟩
theorem pa_S {e : List Expr} : PA X e (aS X e) := ⟨fun pos pins s _ _ _ I h => h pos pins s I⟩
theorem ps_S {e : Stmt} : PS X e (sS X e) := ⟨fun pins s _ _ _ I h => h pins s I⟩
theorem pss_S {e : List Stmt} : PSs X e (ssS X e) := ⟨fun pins s _ _ _ I h => h pins s I⟩
theorem op_S {f : Value → Value → Sem Value} : OpR X f (oS X f) := fun pins s σ _ _ _ v u _ I r1 r2 h => h pins s σ v u I r1 r2
theorem un_S {f : Value → Sem Value} : UnR X f (uS X f) := fun pins s σ _ _ v _ I r1 h => h pins s σ v I r1
theorem call_S {f : Value} : CallR X f (cS X f) := fun pins s σ _ _ us _ I r1 h => h pins s σ us I r1
theorem eS_of {e : Expr} {t : TE} (h : PE X e t) {σ : Slots} {H : Hp} {Q : VK} (q : t σ H Q) : eS X e σ H Q := fun pins s I => h.run pins s σ H Q I q
theorem tS_of {e : Expr} {t : TT} (h : PT X e t) {σ : Slots} {H : Hp} {Q : Bool → Hp → Prop} (q : t σ H Q) : tS X e σ H Q := fun pins s I => h.run pins s σ H Q I q
theorem wS_of {e : Expr} {t : TT} (h : PW X e t) {σ : Slots} {H : Hp} {Q : Bool → Hp → Prop} (q : t σ H Q) : wS X e σ H Q := fun wh pins s I => h.run wh pins s σ H Q I q
theorem aS_of {e : List Expr} {t : TA} (h : PA X e t) {σ : Slots} {H : Hp} {Q : List V → Hp → Prop} (q : t σ H Q) : aS X e σ H Q := fun pos pins s I => h.run pos pins s σ H Q I q
theorem sS_of {e : Stmt} {t : TS} (h : PS X e t) {σ : Slots} {H : Hp} {D : Ends} (q : t D σ H) : sS X e D σ H := fun pins s I => h.run pins s σ H D I q
theorem ssS_of {e : List Stmt} {t : TS} (h : PSs X e t) {σ : Slots} {H : Hp} {D : Ends} (q : t D σ H) : ssS X e D σ H := fun pins s I => h.run pins s σ H D I q
theorem oS_of {f : Value → Value → Sem Value} {r : R2} (h : OpR X f r) {x y : V} {H : Hp} {Q : VK} (q : r x y H Q) : oS X f x y H Q := fun pins s σ v u I r1 r2 => h pins s σ H x y v u Q I r1 r2 q
theorem uS_of {f : Value → Sem Value} {r : V → Hp → VK → Prop} (h : UnR X f r) {x : V} {H : Hp} {Q : VK} (q : r x H Q) : uS X f x H Q := fun pins s σ v I r1 => h pins s σ H x v Q I r1 q
theorem cS_of {f : Value} {r : List V → Hp → VK → Prop} (h : CallR X f r) {x : List V} {H : Hp} {Q : VK} (q : r x H Q) : cS X f x H Q := fun pins s σ v I r1 => h pins s σ H x v Q I r1 q
theorem eS_mono {e : Expr} {σ : Slots} {H : Hp} {Q Q' : VK} (h : eS X e σ H Q) (k : ∀ v H', Q v H' → Q' v H') : eS X e σ H Q' := fun pins s I =>
  thn (h pins s I) fun u s' ⟨v, H', I', r, q⟩ => ⟨v, H', I', r, k _ _ q⟩
theorem tS_mono {e : Expr} {σ : Slots} {H : Hp} {Q Q' : Bool → Hp → Prop} (h : tS X e σ H Q) (k : ∀ v H', Q v H' → Q' v H') : tS X e σ H Q' := fun pins s I =>
  thn (h pins s I) fun u s' ⟨H', I', q⟩ => ⟨H', I', k _ _ q⟩
theorem wS_mono {e : Expr} {σ : Slots} {H : Hp} {Q Q' : Bool → Hp → Prop} (h : wS X e σ H Q) (k : ∀ v H', Q v H' → Q' v H') : wS X e σ H Q' := fun wh pins s I =>
  thn (h wh pins s I) fun u s' ⟨H', I', q⟩ => ⟨H', I', k _ _ q⟩
theorem aS_mono {e : List Expr} {σ : Slots} {H : Hp} {Q Q' : List V → Hp → Prop} (h : aS X e σ H Q) (k : ∀ v H', Q v H' → Q' v H') : aS X e σ H Q' := fun pos pins s I =>
  thn (h pos pins s I) fun u s' ⟨v, H', I', r, q⟩ => ⟨v, H', I', r, k _ _ q⟩
theorem oS_mono {f : Value → Value → Sem Value} {x y : V} {H : Hp} {Q Q' : VK} (h : oS X f x y H Q) (k : ∀ v H', Q v H' → Q' v H') : oS X f x y H Q' := fun pins s σ v u I r1 r2 =>
  thn (h pins s σ v u I r1 r2) fun u s' ⟨v, H', I', r, q⟩ => ⟨v, H', I', r, k _ _ q⟩
theorem cS_mono {f : Value} {x : List V} {H : Hp} {Q Q' : VK} (h : cS X f x H Q) (k : ∀ v H', Q v H' → Q' v H') : cS X f x H Q' := fun pins s σ us I r1 =>
  thn (h pins s σ us I r1) fun u s' ⟨v, H', I', r, q⟩ => ⟨v, H', I', r, k _ _ q⟩
end

/-- an expression, from slots ρ and memory M, has Φ of its value (and Ξ of what it raises) -/
def GE (X : Cx) (e : Expr) (ρ : List Rv) (M : Mem) (Φ : Pst) (Ξ : Xi) : Prop :=
  ∀ B H σ, Ok X.K B H M → EnvOk X.K B σ ρ → Takes X (PostX X.K B H M Ξ) → eS X e σ H (PostE X.K B H M Φ)
def PostT (K : Frg) (B H : Hp) (M : Mem) (Φ : Bool → Mem → Prop) : Bool → Hp → Prop := fun b H' => ∃ B' M', Ok K B' H' M' ∧ Fr B H M B' H' M' ∧ Φ b M'
def GT (X : Cx) (e : Expr) (ρ : List Rv) (M : Mem) (Φ : Bool → Mem → Prop) (Ξ : Xi) : Prop :=
  ∀ B H σ, Ok X.K B H M → EnvOk X.K B σ ρ → Takes X (PostX X.K B H M Ξ) → tS X e σ H (PostT X.K B H M Φ)
def GW (X : Cx) (e : Expr) (ρ : List Rv) (M : Mem) (Φ : Bool → Mem → Prop) (Ξ : Xi) : Prop :=
  ∀ B H σ, Ok X.K B H M → EnvOk X.K B σ ρ → Takes X (PostX X.K B H M Ξ) → wS X e σ H (PostT X.K B H M Φ)
def PostA (K : Frg) (B H : Hp) (M : Mem) (Φ : List Rv → Mem → Prop) : List V → Hp → Prop := fun vs H' => ∃ B' M' rs, Ok K B' H' M' ∧ Fr B H M B' H' M' ∧ RvAll K B' vs rs ∧ Φ rs M'
def GA (X : Cx) (es : List Expr) (ρ : List Rv) (M : Mem) (Φ : List Rv → Mem → Prop) (Ξ : Xi) : Prop :=
  ∀ B H σ, Ok X.K B H M → EnvOk X.K B σ ρ → Takes X (PostX X.K B H M Ξ) → aS X es σ H (PostA X.K B H M Φ)
structure DE where
  nx : List Rv → Mem → Prop
  rt : Rv → Mem → Prop
  bk : List Rv → Mem → Prop := fun _ _ => False
  ct : List Rv → Mem → Prop := fun _ _ => False
  xx : Xi := fun _ _ _ => False
def PostN (K : Frg) (B H : Hp) (M : Mem) (Ψ : List Rv → Mem → Prop) : Slots → Hp → Prop := fun σ' H' => ∃ B' M' ρ', Ok K B' H' M' ∧ Fr B H M B' H' M' ∧ EnvOk K B' σ' ρ' ∧ Ψ ρ' M'
def ends (K : Frg) (B H : Hp) (M : Mem) (D : DE) : Ends where
  nx := PostN K B H M D.nx
  rt := PostE K B H M D.rt
  bk := PostN K B H M D.bk
  ct := PostN K B H M D.ct
def GS (X : Cx) (st : Stmt) (ρ : List Rv) (M : Mem) (D : DE) : Prop :=
  ∀ B H σ, Ok X.K B H M → EnvOk X.K B σ ρ → Takes X (PostX X.K B H M D.xx) → sS X st (ends X.K B H M D) σ H
def GSs (X : Cx) (st : List Stmt) (ρ : List Rv) (M : Mem) (D : DE) : Prop :=
  ∀ B H σ, Ok X.K B H M → EnvOk X.K B σ ρ → Takes X (PostX X.K B H M D.xx) → ssS X st (ends X.K B H M D) σ H
/-- operations by values -/
def G2 (X : Cx) (f : Value → Value → Sem Value) (x y : Rv) (M : Mem) (Φ : Pst) : Prop :=
  ∀ B H v w, Ok X.K B H M → RvOk X.K B v x → RvOk X.K B w y → oS X f v w H (PostE X.K B H M Φ)
def G1 (X : Cx) (f : Value → Sem Value) (x : Rv) (M : Mem) (Φ : Pst) : Prop :=
  ∀ B H v, Ok X.K B H M → RvOk X.K B v x → uS X f v H (PostE X.K B H M Φ)
def GC (X : Cx) (f : Value) (xs : List Rv) (M : Mem) (Φ : Pst) : Prop :=
  ∀ B H vs, Ok X.K B H M → RvAll X.K B vs xs → cS X f vs H (PostE X.K B H M Φ)
end Dl

set_option Elab.async false
set_option linter.all false
set_option maxRecDepth 100000
set_option maxHeartbeats 4000000
namespace Dl
open PySem PySem.Spec PyProof.Rows L2
section
variable {X : Cx} {ρ : List Rv} {M : Mem} {Φ : Pst} {Ξ : Xi}

/-! ## glue -/
theorem tk_after {B H B1 H1 : Hp} {M1 : Mem} {Ξ : Xi} (tk : Takes X (PostX X.K B H M Ξ)) (f : Fr B H M B1 H1 M1) : Takes X (PostX X.K B1 H1 M1 Ξ) := tk.imp (postX_after f)
theorem post_lift {B H B1 H1 : Hp} {M1 : Mem} (f : Fr B H M B1 H1 M1) {e : Expr} {σ : Slots} (h : eS X e σ H1 (PostE X.K B1 H1 M1 Φ)) : eS X e σ H1 (PostE X.K B H M Φ) := eS_mono h fun _ _ => postE_after f
theorem ge_mono {Φ' : Pst} {e : Expr} (h : GE X e ρ M Φ Ξ) (k : ∀ r M', Φ r M' → Φ' r M') : GE X e ρ M Φ' Ξ := fun B H σ ok env tk => eS_mono (h B H σ ok env tk) fun _ _ => postE_mono k
/-- one expression, then a step on its value -/
theorem one {e : Expr} {Ψ : Rv → Mem → Prop} (ha : GE X e ρ M Ψ Ξ) {B H : Hp} {σ : Slots} (ok : Ok X.K B H M) (env : EnvOk X.K B σ ρ) (tk : Takes X (PostX X.K B H M Ξ))
    {Q : VK} (k : ∀ v H1 B1 M1 r, Ok X.K B1 H1 M1 → Fr B H M B1 H1 M1 → RvOk X.K B1 v r → Ψ r M1 → Q v H1) : eS X e σ H Q :=
  eS_mono (ha B H σ ok env tk) fun v H1 ⟨B1, M1, r, o1, f1, q1, p⟩ => k v H1 B1 M1 r o1 f1 q1 p
theorem two {a b : Expr} {f : Value → Value → Sem Value} (ha : GE X a ρ M (fun x M1 => GE X b ρ M1 (fun y M2 => G2 X f x y M2 Φ) Ξ) Ξ)
    {B H : Hp} {σ : Slots} (ok : Ok X.K B H M) (env : EnvOk X.K B σ ρ) (tk : Takes X (PostX X.K B H M Ξ)) :
    eS X a σ H fun v H1 => eS X b σ H1 fun w H2 => oS X f v w H2 (PostE X.K B H M Φ) :=
  one ha ok env tk fun v H1 B1 M1 r o1 f1 q1 hb => one hb o1 (env_mono f1.ex env) (tk_after tk f1) fun w H2 B2 M2 r2 o2 f2 q2 h =>
    oS_mono (h B2 H2 v w o2 (rv_mono f2.ex q1) q2) fun _ _ => postE_after (f1.trans f2)

/-! ## names and constants -/
def Nm (X : Cx) (i : Nat) (x : Str) : Prop := X.N[i]? = some x
structure Var (X : Cx) (i : Nat) (x : Str) : Prop where
  n : X.N[i]? = some x
  v : Vis X.env.scope x
  l : L2.Loc X.env.scope x
  f : X.fn x = true
  d1 : (x == ("__debug__" : Str)) = false
  d2 : (x == ("__classdict__" : Str)) = false
theorem ge_name {i : Nat} {r : Rv} {x : Str} {pos : Pos} (hv : Var X i x) (hr : ρ[i]? = some r) (hn : r.isAny = false) (h : Φ r M) : GE X (.Name x pos) ρ M Φ Ξ := fun B H σ ok env tk => by
  obtain ⟨v, e, q⟩ := env_get i env hr hn
  exact eS_of (pe_var hv.n hv.v hv.d1 hv.d2) ⟨v, e, post_same ok q h⟩
/-- within a comprehension -/
theorem ge_nameC {i : Nat} {r : Rv} {x : Str} {pos : Pos} (hN : Nm X i x) (hv : Vis X.env.scope x) (hr : ρ[i]? = some r) (hn : r.isAny = false) (h : Φ r M)
    (hd : (x == ("__debug__" : Str)) = false := by decide) (hcd : (x == ("__classdict__" : Str)) = false := by decide) : GE X (.Name x pos) ρ M Φ Ξ := fun B H σ ok env tk => by
  obtain ⟨v, e, q⟩ := env_get i env hr hn
  exact eS_of (pe_var hN hv hd hcd) ⟨v, e, post_same ok q h⟩
theorem ge_int {i : Int} {j pos} (h : Φ (.d (.int i)) M) : GE X (.Constant (.int i) j pos) ρ M Φ Ξ := fun B H σ ok env tk => eS_of pe_int (post_same ok (.d (.int i)) h)
theorem ge_bl {b : Bool} {j pos} (h : Φ (.d (.bool b)) M) : GE X (.Constant (.bool b) j pos) ρ M Φ Ξ := fun B H σ ok env tk => eS_of pe_bl (post_same ok (.d (.bl b)) h)
theorem ge_non {j pos} (h : Φ (.d .none) M) : GE X (.Constant .none j pos) ρ M Φ Ξ := fun B H σ ok env tk => eS_of pe_non (post_same ok (.d .non) h)
theorem ge_str {x : Str} {j pos} (h : Φ (.d (.str x)) M) : GE X (.Constant (.str x) j pos) ρ M Φ Ξ := fun B H σ ok env tk => eS_of pe_str (post_same ok (.d (.str x)) h)
structure Glo (X : Cx) (x : Str) (v : V) : Prop where
  ex : ∃ u, X.mg x = some u ∧ RelV v u
  d : (x == ("__debug__" : Str)) = false
theorem ge_glob {x : Str} {v : V} {d : PyData} {pos : Pos} (hm : Glo X x v) (hd : ∀ K H, Dp K H v d) (hg : Gl X x) (h : Φ (.d d) M) : GE X (.Name x pos) ρ M Φ Ξ := fun B H σ ok env tk => by
  obtain ⟨⟨u, hm, r⟩, hdb⟩ := hm
  exact eS_of (pe_glob hg hm r hdb) (post_same ok (.d (hd _ _)) h)

/-! ## operators -/
theorem ge_bin {a b : Expr} {op : Operator} {pos : Pos} (ha : GE X a ρ M (fun x M1 => GE X b ρ M1 (fun y M2 => G2 X (binaryOp op) x y M2 Φ) Ξ) Ξ) : GE X (.BinOp a op b pos) ρ M Φ Ξ :=
  fun B H σ ok env tk => eS_of (pe_op op_S pe_S pe_S) (two ha ok env tk)
theorem ge_cmp {a b : Expr} {op : CmpOp} {pos : Pos} (hm : behindInMarks op b = false) (ha : GE X a ρ M (fun x M1 => GE X b ρ M1 (fun y M2 => G2 X (compareOp op) x y M2 Φ) Ξ) Ξ) : GE X (.Compare a [op] [b] pos) ρ M Φ Ξ :=
  fun B H σ ok env tk => eS_of (pe_cmpR op_S pe_S pe_S hm) (two ha ok env tk)
theorem ge_un {a : Expr} {op : UnaryOp} {pos : Pos} {f : Value → Sem Value} (hp : ∀ {X : Cx} {t : TE} {r : V → Hp → VK → Prop} {pos : Pos}, UnR X f r → PE X a t → PE X (.UnaryOp op a pos) (tUn r t))
    (ha : GE X a ρ M (fun x M1 => G1 X f x M1 Φ) Ξ) : GE X (.UnaryOp op a pos) ρ M Φ Ξ :=
  fun B H σ ok env tk => eS_of (hp un_S pe_S) (one ha ok env tk fun v H1 B1 M1 r o1 f1 q1 h => fun pins s σ v' I r' =>
    thn (h B1 H1 v o1 q1 pins s σ v' I r') fun u s' ⟨w, H', I', r, q⟩ => ⟨w, H', I', r, postE_after f1 q⟩)
section
variable {i j : Int}
theorem g2_mk {f : Value → Value → Sem Value} {r : R2} {x y : Rv} (h : OpR X f r) (k : ∀ B H v w, Ok X.K B H M → RvOk X.K B v x → RvOk X.K B w y → r v w H (PostE X.K B H M Φ)) : G2 X f x y M Φ := fun B H v w ok a b => oS_of h (k B H v w ok a b)
theorem int_of {K : Frg} {B : Hp} {v : V} {i : Int} (h : RvOk K B v (.d (.int i))) : v = .int i := by cases h with | d h => cases h; rfl
theorem bool_of {K : Frg} {B : Hp} {v : V} {i : Bool} (h : RvOk K B v (.d (.bool i))) : v = .bl i := by cases h with | d h => cases h; rfl
theorem str_of {K : Frg} {B : Hp} {v : V} {i : Str} (h : RvOk K B v (.d (.str i))) : v = .str i := by cases h with | d h => cases h; rfl
theorem g2_I0 {f : Value → Value → Sem Value} {g : Int → Int → V} (ho : OpR X f (rI0 g)) {d : PyData} (hd : ∀ K H, Dp K H (g i j) d) (h : Φ (.d d) M) : G2 X f (.d (.int i)) (.d (.int j)) M Φ :=
  g2_mk ho fun B H v w ok a b => ⟨i, j, int_of a, int_of b, post_same ok (.d (hd _ _)) h⟩
theorem g2_I {f : Value → Value → Sem Value} {C : Int → Int → Prop} {g : Int → Int → V} (ho : OpR X f (rI C g)) {d : PyData} (hd : ∀ K H, Dp K H (g i j) d) (hc : C i j) (h : Φ (.d d) M) : G2 X f (.d (.int i)) (.d (.int j)) M Φ :=
  g2_mk ho fun B H v w ok a b => ⟨i, j, int_of a, int_of b, hc, post_same ok (.d (hd _ _)) h⟩
theorem g2_add (h : Φ (.d (.int (i + j))) M) : G2 X (binaryOp .Add) (.d (.int i)) (.d (.int j)) M Φ := g2_I0 op_add (fun _ _ => .int _) h
theorem g2_sub (h : Φ (.d (.int (i - j))) M) : G2 X (binaryOp .Sub) (.d (.int i)) (.d (.int j)) M Φ := g2_I0 op_sub (fun _ _ => .int _) h
theorem g2_mul (hc : CMulW i j) (h : Φ (.d (.int (i * j))) M) : G2 X (binaryOp .Mult) (.d (.int i)) (.d (.int j)) M Φ := g2_I op_mulW (fun _ _ => .int _) hc h
theorem g2_fdiv (hc : CDivW i j) (h : Φ (.d (.int (i / j))) M) : G2 X (binaryOp .FloorDiv) (.d (.int i)) (.d (.int j)) M Φ := g2_I op_fdivW (fun _ _ => .int _) hc h
theorem g2_mod (hc : 0 < j) (h : Φ (.d (.int (i % j))) M) : G2 X (binaryOp .Mod) (.d (.int i)) (.d (.int j)) M Φ := g2_I op_modN (fun _ _ => .int _) (by omega) (by rw [Int.fmod_eq_emod_of_nonneg i (by omega)]; exact h)
theorem g2_lt (h : Φ (.d (.bool (decide (i < j)))) M) : G2 X (compareOp .Lt) (.d (.int i)) (.d (.int j)) M Φ := g2_I0 op_lt (fun _ _ => .bl _) h
theorem g2_le (h : Φ (.d (.bool (decide (i ≤ j)))) M) : G2 X (compareOp .LtE) (.d (.int i)) (.d (.int j)) M Φ := g2_I0 op_le (fun _ _ => .bl _) h
theorem g2_gt (h : Φ (.d (.bool (decide (j < i)))) M) : G2 X (compareOp .Gt) (.d (.int i)) (.d (.int j)) M Φ := g2_I0 op_gt (fun _ _ => .bl _) h
theorem g2_ge (h : Φ (.d (.bool (decide (j ≤ i)))) M) : G2 X (compareOp .GtE) (.d (.int i)) (.d (.int j)) M Φ := g2_I0 op_ge (fun _ _ => .bl _) h
theorem dec_v {i j : Int} : decide (V.int i = V.int j) = decide (i = j) := by
  by_cases h : i = j
  · subst h; simp
  · rw [decide_eq_false h, decide_eq_false (fun q => h (V.int.inj q))]
theorem g2_eqI (h : Φ (.d (.bool (decide (i = j)))) M) : G2 X (compareOp .Eq) (.d (.int i)) (.d (.int j)) M Φ :=
  g2_mk op_eq fun B H v w ok a b => by
    rw [int_of a, int_of b]
    exact ⟨rfl, post_same ok (by rw [dec_v]; exact .d (.bl _)) h⟩
theorem g2_neI (h : Φ (.d (.bool (!decide (i = j)))) M) : G2 X (compareOp .NotEq) (.d (.int i)) (.d (.int j)) M Φ :=
  g2_mk op_ne fun B H v w ok a b => by
    rw [int_of a, int_of b]
    exact ⟨rfl, post_same ok (by rw [dec_v]; exact .d (.bl _)) h⟩
theorem g2_eqB {p q : Bool} (h : Φ (.d (.bool (decide (p = q)))) M) : G2 X (compareOp .Eq) (.d (.bool p)) (.d (.bool q)) M Φ :=
  g2_mk op_eq fun B H v w ok a b => by
    rw [bool_of a, bool_of b]
    refine ⟨rfl, post_same ok (r := .d (.bool (decide (p = q)))) ?_ h⟩
    have : decide (V.bl p = V.bl q) = decide (p = q) := by cases p <;> cases q <;> rfl
    rw [this]; exact .d (.bl _)
theorem g2_neB {p q : Bool} (h : Φ (.d (.bool (!decide (p = q)))) M) : G2 X (compareOp .NotEq) (.d (.bool p)) (.d (.bool q)) M Φ :=
  g2_mk op_ne fun B H v w ok a b => by
    rw [bool_of a, bool_of b]
    refine ⟨rfl, post_same ok (r := .d (.bool (!decide (p = q)))) ?_ h⟩
    have : decide (V.bl p = V.bl q) = decide (p = q) := by cases p <;> cases q <;> rfl
    rw [this]; exact .d (.bl _)
theorem dec_s {i j : Str} : decide (V.str i = V.str j) = decide (i = j) := by
  by_cases h : i = j
  · subst h; simp
  · rw [decide_eq_false h, decide_eq_false (fun q => h (V.str.inj q))]
theorem g2_eqS {i j : Str} (h : Φ (.d (.bool (decide (i = j)))) M) : G2 X (compareOp .Eq) (.d (.str i)) (.d (.str j)) M Φ :=
  g2_mk op_eq fun B H v w ok a b => by
    rw [str_of a, str_of b]
    exact ⟨rfl, post_same ok (by rw [dec_s]; exact .d (.bl _)) h⟩
theorem g2_neS {i j : Str} (h : Φ (.d (.bool (!decide (i = j)))) M) : G2 X (compareOp .NotEq) (.d (.str i)) (.d (.str j)) M Φ :=
  g2_mk op_ne fun B H v w ok a b => by
    rw [str_of a, str_of b]
    exact ⟨rfl, post_same ok (by rw [dec_s]; exact .d (.bl _)) h⟩
/-- == of data at any depth -/
theorem g2_eqD {d e : PyData} (hu : X.A.units + 64 < cLine) (sd : SeqAt.shaped d = true) (se : SeqAt.shaped e = true) (h : Φ (.d (.bool (PyData.eqv d e))) M) : G2 X (compareOp .Eq) (.d d) (.d e) M Φ :=
  g2_mk (op_eqD hu) fun B H v w ok a b => by
    cases a with
    | d a => cases b with
      | d b => exact ⟨d, e, dp_mono ok.ext _ a, dp_mono ok.ext _ b, sd, se, post_same ok (.d (.bl _)) h⟩
theorem g2_neD {d e : PyData} (hu : X.A.units + 64 < cLine) (sd : SeqAt.shaped d = true) (se : SeqAt.shaped e = true) (h : Φ (.d (.bool (!PyData.eqv d e))) M) : G2 X (compareOp .NotEq) (.d d) (.d e) M Φ :=
  g2_mk (op_neD hu) fun B H v w ok a b => by
    cases a with
    | d a => cases b with
      | d b => exact ⟨d, e, dp_mono ok.ext _ a, dp_mono ok.ext _ b, sd, se, post_same ok (.d (.bl _)) h⟩
end

/-! ## tests -/
theorem gt_cmp {a b : Expr} {op : CmpOp} {pos : Pos} {Ψ : Bool → Mem → Prop} (hm : behindInMarks op b = false)
    (ha : GE X a ρ M (fun x M1 => GE X b ρ M1 (fun y M2 => G2 X (compareOp op) x y M2 fun r M3 => ∃ c, r = .d (.bool c) ∧ Ψ c M3) Ξ) Ξ) : GT X (.Compare a [op] [b] pos) ρ M Ψ Ξ :=
  fun B H σ ok env tk => tS_of (pt_cmpR op_S pe_S pe_S hm) (eS_mono (two ha ok env tk) fun v H1 h1 => eS_mono h1 fun w H2 h2 => oS_mono h2 fun z H3 ⟨B', M', r, o, f, q, c, e, k⟩ => by
    subst e
    exact ⟨c, bool_of q, B', M', o, f, k⟩)
theorem gt_val {e : Expr} {Ψ : Bool → Mem → Prop} (hw : ∀ whole, isTrue e X.env whole = (do let v ← whole; standAt e.pos; holding [v] (truthy v))) (ha : GE X e ρ M (fun r M1 => ∃ c, r = .d (.bool c) ∧ Ψ c M1) Ξ) : GT X e ρ M Ψ Ξ :=
  fun B H σ ok env tk => tS_of (pt_val pe_S hw) (one ha ok env tk fun v H1 B1 M1 r o1 f1 q1 ⟨c, e, k⟩ => by
    subst e
    exact ⟨c, bool_of q1, B1, M1, o1, f1, k⟩)
theorem gt_not {a : Expr} {pos : Pos} {Ψ : Bool → Mem → Prop} (ha : GT X a ρ M (fun c M1 => Ψ (!c) M1) Ξ) : GT X (.UnaryOp .Not a pos) ρ M Ψ Ξ :=
  fun B H σ ok env tk => tS_of (pt_not pt_S) (tS_mono (ha B H σ ok env tk) fun c H1 ⟨B1, M1, o1, f1, k⟩ => ⟨B1, M1, o1, f1, k⟩)
theorem gt_w {e : Expr} {Ψ : Bool → Mem → Prop} (h : GW X e ρ M Ψ Ξ) : GT X e ρ M Ψ Ξ := fun B H σ ok env tk => tS_of (PW.pt pw_S) (h B H σ ok env tk)
theorem gw_and1 {a : Expr} {pos : Pos} {Ψ : Bool → Mem → Prop} (h : GT X a ρ M Ψ Ξ) : GW X (.BoolOp .And [a] pos) ρ M Ψ Ξ := fun B H σ ok env tk => wS_of (pw_and1 pt_S) (h B H σ ok env tk)
theorem gw_or1 {a : Expr} {pos : Pos} {Ψ : Bool → Mem → Prop} (h : GT X a ρ M Ψ Ξ) : GW X (.BoolOp .Or [a] pos) ρ M Ψ Ξ := fun B H σ ok env tk => wS_of (pw_or1 pt_S) (h B H σ ok env tk)
theorem postT_after {K : Frg} {B H B1 H1 : Hp} {M M1 : Mem} {Ψ : Bool → Mem → Prop} (f : Fr B H M B1 H1 M1) {b : Bool} {H' : Hp} : PostT K B1 H1 M1 Ψ b H' → PostT K B H M Ψ b H' := fun ⟨B', M', o, g, q⟩ => ⟨B', M', o, f.trans g, q⟩
theorem gw_and {a b : Expr} {rest : List Expr} {pos : Pos} {Ψ : Bool → Mem → Prop} (h : GT X a ρ M (fun c M1 => (c = true → GW X (.BoolOp .And (b :: rest) pos) ρ M1 Ψ Ξ) ∧ (c = false → Ψ false M1)) Ξ) : GW X (.BoolOp .And (a :: b :: rest) pos) ρ M Ψ Ξ :=
  fun B H σ ok env tk => wS_of (pw_and pt_S pw_S) (tS_mono (h B H σ ok env tk) fun c H1 ⟨B1, M1, o1, f1, k⟩ => by
    cases c with
    | true => exact wS_mono (k.1 rfl B1 H1 σ o1 (env_mono f1.ex env) (tk_after tk f1)) fun _ _ => postT_after f1
    | false => exact ⟨B1, M1, o1, f1, k.2 rfl⟩)
theorem gw_or {a b : Expr} {rest : List Expr} {pos : Pos} {Ψ : Bool → Mem → Prop} (h : GT X a ρ M (fun c M1 => (c = false → GW X (.BoolOp .Or (b :: rest) pos) ρ M1 Ψ Ξ) ∧ (c = true → Ψ true M1)) Ξ) : GW X (.BoolOp .Or (a :: b :: rest) pos) ρ M Ψ Ξ :=
  fun B H σ ok env tk => wS_of (pw_or pt_S pw_S) (tS_mono (h B H σ ok env tk) fun c H1 ⟨B1, M1, o1, f1, k⟩ => by
    cases c with
    | false => exact wS_mono (k.1 rfl B1 H1 σ o1 (env_mono f1.ex env) (tk_after tk f1)) fun _ _ => postT_after f1
    | true => exact ⟨B1, M1, o1, f1, k.2 rfl⟩)
/-! .. as values -/
theorem ge_one {op : BoolOp} {a : Expr} {pos : Pos} (h : GE X a ρ M Φ Ξ) : GE X (.BoolOp op [a] pos) ρ M Φ Ξ := fun B H σ ok env tk => eS_of (pe_one pe_S) (h B H σ ok env tk)
theorem ge_and {a b : Expr} {rest : List Expr} {pos : Pos} (h : GE X a ρ M (fun r M1 => ∃ c, r = .d (.bool c) ∧ (c = true → GE X (.BoolOp .And (b :: rest) pos) ρ M1 Φ Ξ) ∧ (c = false → Φ (.d (.bool false)) M1)) Ξ) : GE X (.BoolOp .And (a :: b :: rest) pos) ρ M Φ Ξ :=
  fun B H σ ok env tk => eS_of (pe_and pe_S pe_S) (one h ok env tk fun v H1 B1 M1 r o1 f1 q1 ⟨c, e, k⟩ => by
    subst e
    refine ⟨c, bool_of q1, ?_⟩
    cases c with
    | true => exact post_lift f1 (k.1 rfl B1 H1 σ o1 (env_mono f1.ex env) (tk_after tk f1))
    | false => exact ⟨B1, M1, _, o1, f1, .d (.bl false), k.2 rfl⟩)
theorem ge_or {a b : Expr} {rest : List Expr} {pos : Pos} (h : GE X a ρ M (fun r M1 => ∃ c, r = .d (.bool c) ∧ (c = false → GE X (.BoolOp .Or (b :: rest) pos) ρ M1 Φ Ξ) ∧ (c = true → Φ (.d (.bool true)) M1)) Ξ) : GE X (.BoolOp .Or (a :: b :: rest) pos) ρ M Φ Ξ :=
  fun B H σ ok env tk => eS_of (pe_or pe_S pe_S) (one h ok env tk fun v H1 B1 M1 r o1 f1 q1 ⟨c, e, k⟩ => by
    subst e
    refine ⟨c, bool_of q1, ?_⟩
    cases c with
    | false => exact post_lift f1 (k.1 rfl B1 H1 σ o1 (env_mono f1.ex env) (tk_after tk f1))
    | true => exact ⟨B1, M1, _, o1, f1, .d (.bl true), k.2 rfl⟩)
theorem ge_not {a : Expr} {pos : Pos} (h : GE X a ρ M (fun r M1 => ∃ c, r = .d (.bool c) ∧ Φ (.d (.bool (!c))) M1) Ξ) : GE X (.UnaryOp .Not a pos) ρ M Φ Ξ :=
  fun B H σ ok env tk => eS_of (pe_not pe_S) (one h ok env tk fun v H1 B1 M1 r o1 f1 q1 ⟨c, e, k⟩ => by
    subst e
    exact ⟨c, bool_of q1, B1, M1, _, o1, f1, .d (.bl _), k⟩)
theorem ge_if {c a b : Expr} {pos : Pos} (h : GT X c ρ M (fun k M1 => (k = true → GE X a ρ M1 Φ Ξ) ∧ (k = false → GE X b ρ M1 Φ Ξ)) Ξ) : GE X (.IfExp c a b pos) ρ M Φ Ξ :=
  fun B H σ ok env tk => eS_of (pe_ifExp pt_S pe_S pe_S) (tS_mono (h B H σ ok env tk) fun k H1 ⟨B1, M1, o1, f1, q⟩ => by
    cases k with
    | true => exact post_lift f1 (q.1 rfl B1 H1 σ o1 (env_mono f1.ex env) (tk_after tk f1))
    | false => exact post_lift f1 (q.2 rfl B1 H1 σ o1 (env_mono f1.ex env) (tk_after tk f1)))
/-- a < b < c -/
theorem ge_chain {a b c : Expr} {op op' : CmpOp} {pos : Pos} (hm : lastMarks [op, op'] [b, c] = false)
    (h : GE X a ρ M (fun x M1 => GE X b ρ M1 (fun y M2 => G2 X (compareOp op) x y M2 fun r M3 => ∃ k, r = .d (.bool k) ∧ (k = true → GE X c ρ M3 (fun z M4 => G2 X (compareOp op') y z M4 Φ) Ξ) ∧ (k = false → Φ (.d (.bool false)) M3)) Ξ) Ξ) :
    GE X (.Compare a [op, op'] [b, c] pos) ρ M Φ Ξ :=
  fun B H σ ok env tk => eS_of (pe_chain op_S op_S pe_S pe_S pe_S hm) (one h ok env tk fun v H1 B1 M1 r o1 f1 q1 hb => one hb o1 (env_mono f1.ex env) (tk_after tk f1) fun w H2 B2 M2 y o2 f2 q2 h2 =>
    oS_mono (h2 B2 H2 v w o2 (rv_mono f2.ex q1) q2) fun z H3 ⟨B3, M3, r3, o3, f3, q3, k, e, k1, k2⟩ => by
      subst e
      have f : Fr B H M B3 H3 M3 := (f1.trans f2).trans f3
      refine ⟨k, bool_of q3, ?_⟩
      cases k with
      | true => exact one (k1 rfl) o3 (env_mono f.ex env) (tk_after tk f) fun w4 H4 B4 M4 r4 o4 f4 q4 h4 => oS_mono (h4 B4 H4 w w4 o4 (rv_mono (f3.trans f4).ex q2) q4) fun _ _ => postE_after (f.trans f4)
      | false => exact ⟨B3, M3, _, o3, f, .d (.bl false), k2 rfl⟩)

/-! ## argument lists, displays, calls -/
theorem ga_nil {Ψ : List Rv → Mem → Prop} (h : Ψ [] M) : GA X [] ρ M Ψ Ξ := fun B H σ ok env tk => aS_of pa_nil ⟨B, M, [], ok, .refl, .nil, h⟩
theorem ga_cons {e : Expr} {es : List Expr} {Ψ : List Rv → Mem → Prop} (hs : starEach (e :: es) X.env = (false, eval e X.env) :: starEach es X.env)
    (h : GE X e ρ M (fun r M1 => GA X es ρ M1 (fun rs M2 => Ψ (r :: rs) M2) Ξ) Ξ) : GA X (e :: es) ρ M Ψ Ξ :=
  fun B H σ ok env tk => aS_of (pa_cons pe_S pa_S hs) (one h ok env tk fun v H1 B1 M1 r o1 f1 q1 ha => aS_mono (ha B1 H1 σ o1 (env_mono f1.ex env) (tk_after tk f1)) fun vs H2 ⟨B2, M2, rs, o2, f2, q2, k⟩ =>
    ⟨B2, M2, r :: rs, o2, f1.trans f2, .cons (rv_mono f2.ex q1) q2, k⟩)
theorem args {es : List Expr} {Ψ : List Rv → Mem → Prop} (ha : GA X es ρ M Ψ Ξ) {B H : Hp} {σ : Slots} (ok : Ok X.K B H M) (env : EnvOk X.K B σ ρ) (tk : Takes X (PostX X.K B H M Ξ))
    {Q : List V → Hp → Prop} (k : ∀ v H1 B1 M1 r, Ok X.K B1 H1 M1 → Fr B H M B1 H1 M1 → RvAll X.K B1 v r → Ψ r M1 → Q v H1) : aS X es σ H Q :=
  aS_mono (ha B H σ ok env tk) fun v H1 ⟨B1, M1, r, o1, f1, q1, p⟩ => k v H1 B1 M1 r o1 f1 q1 p
/-- a display that will not change -/
theorem ge_tup {es : List Expr} {k : Nat} {pos : Pos} (h : GA X es ρ M (fun rs M1 => ∃ ds : List PyData, rs = ds.map Rv.d ∧ ds.length ≤ sizeLine ∧ Φ (.d (.tuple ds)) M1) Ξ) : GE X (.Tuple es k pos) ρ M Φ Ξ :=
  fun B H σ ok env tk => eS_of (pe_tup pa_S) (args h ok env tk fun vs H1 B1 M1 rs o1 f1 q1 ⟨ds, e, z, k⟩ => by
    subst e
    refine ⟨by rw [q1.length, List.length_map]; exact z, fun p hp => postE_after f1 (post_frz o1 hp (.d (.tup (.of upd_same) (dpAll_mono (same_new (sub_none o1.ext hp)) _ q1.data))) k)⟩)
theorem ge_tupR {es : List Expr} {k : Nat} {pos : Pos} (h : GA X es ρ M (fun rs M1 => rs.length ≤ sizeLine ∧ Φ (.tup rs) M1) Ξ) : GE X (.Tuple es k pos) ρ M Φ Ξ :=
  fun B H σ ok env tk => eS_of (pe_tup pa_S) (args h ok env tk fun vs H1 B1 M1 rs o1 f1 q1 ⟨z, k⟩ => by
    refine ⟨by rw [q1.length]; exact z, fun p hp => postE_after f1 (post_frz o1 hp (.tup (.of upd_same) (rvAll_mono (same_new (sub_none o1.ext hp)) q1)) k)⟩)
theorem ge_lst {es : List Expr} {pos : Pos} (h : GA X es ρ M (fun rs M1 => ∃ ds : List PyData, rs = ds.map Rv.d ∧ ds.length ≤ sizeLine ∧ Φ (.d (.list ds)) M1) Ξ) : GE X (.List es pos) ρ M Φ Ξ :=
  fun B H σ ok env tk => eS_of (pe_lst pa_S) (args h ok env tk fun vs H1 B1 M1 rs o1 f1 q1 ⟨ds, e, z, k⟩ => by
    subst e
    refine ⟨by rw [q1.length, List.length_map]; exact z, fun p hp => postE_after f1 (post_frz o1 hp (.d (.lst (.of upd_same) (dpAll_mono (same_new (sub_none o1.ext hp)) _ q1.data))) k)⟩)
/-- a list display that may change -/
theorem ge_own {es : List Expr} {pos : Pos} (h : GA X es ρ M (fun rs M1 => rs.length ≤ sizeLine ∧ ∀ p, Φ (.cell p) ((p, Is rs) :: M1)) Ξ) : GE X (.List es pos) ρ M Φ Ξ :=
  fun B H σ ok env tk => eS_of (pe_lst pa_S) (args h ok env tk fun vs H1 B1 M1 rs o1 f1 q1 ⟨z, k⟩ => by
    refine ⟨by rw [q1.length]; exact z, fun p hp => postE_after f1 (post_own (P := Is rs) o1 hp q1 rfl (k p))⟩)
structure Bi (X : Cx) (x : Str) (v : Value) : Prop where
  m : X.mg x = none
  b : bootBuiltins x = some v
  n : x ≠ "__name__"
  d : (x == ("__debug__" : Str)) = false
theorem ge_callB {x : Str} {id : String} {e : Expr} {es : List Expr} {p pos : Pos} (hb : Bi X x (.builtin id)) (hg : Gl X x) (he : starEach (e :: es) X.env = (false, eval e X.env) :: starEach es X.env) (hpl : (backTo pos (starEach es X.env)).any (·.1) = false)
    (h : GA X (e :: es) ρ M (fun rs M1 => GC X (.builtin id) rs M1 Φ) Ξ) : GE X (.Call (.Name x p) (e :: es) [] pos) ρ M Φ Ξ :=
  fun B H σ ok env tk => eS_of (pe_callB call_S hg hb.m hb.b pa_S hb.n hb.d he hpl) (args h ok env tk fun vs H1 B1 M1 rs o1 f1 q1 k => cS_mono (k B1 H1 vs o1 q1) fun _ _ => postE_after f1)
theorem ge_callTy {x : Str} {id : String} {e : Expr} {es : List Expr} {p pos : Pos} (hb : Bi X x (.type id)) (hg : Gl X x) (he : starEach (e :: es) X.env = (false, eval e X.env) :: starEach es X.env) (hpl : (backTo pos (starEach es X.env)).any (·.1) = false)
    (h : GA X (e :: es) ρ M (fun rs M1 => GC X (.type id) rs M1 Φ) Ξ) : GE X (.Call (.Name x p) (e :: es) [] pos) ρ M Φ Ξ :=
  fun B H σ ok env tk => eS_of (pe_callTy call_S hg hb.m hb.b pa_S hb.n hb.d he hpl) (args h ok env tk fun vs H1 B1 M1 rs o1 f1 q1 k => cS_mono (k B1 H1 vs o1 q1) fun _ _ => postE_after f1)
theorem gc_mk {f : Value} {r : List V → Hp → VK → Prop} {xs : List Rv} (h : CallR X f r) (k : ∀ B H vs, Ok X.K B H M → RvAll X.K B vs xs → r vs H (PostE X.K B H M Φ)) : GC X f xs M Φ := fun B H vs ok a => cS_of h (k B H vs ok a)
end
end Dl

set_option Elab.async false
set_option linter.all false
set_option maxRecDepth 100000
set_option maxHeartbeats 4000000
namespace Dl
open PySem PySem.Spec PyProof.Rows L2
section
variable {X : Cx} {ρ : List Rv} {M : Mem} {Φ : Pst} {Ξ : Xi} {D : DE}

/-! ## targets -/
def gS (X : Cx) (tg : Expr) : TG := fun v σ H Q => ∀ (pins : List (Addr × Obj)) (s : Shared) (u : Value), Inv X pins σ H s → RelV v u →
  wpAny (model X.prog X.w) X.A (assign tg X.env u) (fun _ s' => ∃ σ' H', Inv X pins σ' H' s' ∧ Q σ' H') X.xe s
theorem pg_S {tg : Expr} : PG X tg (gS X tg) := ⟨fun pins s _ _ _ u _ I r h => h pins s u I r⟩
theorem gS_of {tg : Expr} {t : TG} (h : PG X tg t) {v : V} {σ : Slots} {H : Hp} {Q : Slots → Hp → Prop} (q : t v σ H Q) : gS X tg v σ H Q := fun pins s u I r => h.run pins s σ H v u Q I r q
theorem gS_mono {tg : Expr} {v : V} {σ : Slots} {H : Hp} {Q Q' : Slots → Hp → Prop} (h : gS X tg v σ H Q) (k : ∀ σ' H', Q σ' H' → Q' σ' H') : gS X tg v σ H Q' := fun pins s u I r =>
  thn (h pins s u I r) fun _ s' ⟨σ', H', I', q⟩ => ⟨σ', H', I', k _ _ q⟩
/-- a target takes a value; vs: the slots of a comprehension's own names (none else are stored, where vs is asked for) -/
def GG (X : Cx) (tg : Expr) (r : Rv) (ρ : List Rv) (M : Mem) (Ψ : List Rv → Mem → Prop) (vs : List Nat) : Prop :=
  ∀ B H σ v, Ok X.K B H M → EnvOk X.K B σ ρ → RvOk X.K B v r → gS X tg v σ H fun σ' H' => (vs ≠ [] → wipe σ' vs = wipe σ vs) ∧ PostN X.K B H M Ψ σ' H'
theorem postN_after {K : Frg} {B H B1 H1 : Hp} {M M1 : Mem} {Ψ : List Rv → Mem → Prop} (f : Fr B H M B1 H1 M1) {σ : Slots} {H' : Hp} : PostN K B1 H1 M1 Ψ σ H' → PostN K B H M Ψ σ H' :=
  fun ⟨B', M', r, o, g, e, q⟩ => ⟨B', M', r, o, f.trans g, e, q⟩
theorem postN_mono {K : Frg} {B H : Hp} {M : Mem} {Ψ Ψ' : List Rv → Mem → Prop} (h : ∀ r M', Ψ r M' → Ψ' r M') {σ : Slots} {H' : Hp} : PostN K B H M Ψ σ H' → PostN K B H M Ψ' σ H' :=
  fun ⟨B', M', r, o, g, e, q⟩ => ⟨B', M', r, o, g, e, h _ _ q⟩
theorem ends_after {K : Frg} {B H B1 H1 : Hp} {M M1 : Mem} (f : Fr B H M B1 H1 M1) : (∀ σ' H', (ends K B1 H1 M1 D).nx σ' H' → (ends K B H M D).nx σ' H') ∧ (∀ v H', (ends K B1 H1 M1 D).rt v H' → (ends K B H M D).rt v H') ∧
    (∀ σ' H', (ends K B1 H1 M1 D).bk σ' H' → (ends K B H M D).bk σ' H') ∧ (∀ σ' H', (ends K B1 H1 M1 D).ct σ' H' → (ends K B H M D).ct σ' H') :=
  ⟨fun _ _ => postN_after f, fun _ _ => postE_after f, fun _ _ => postN_after f, fun _ _ => postN_after f⟩
theorem sS_mono {st : Stmt} {σ : Slots} {H : Hp} {E E' : Ends} (h : sS X st E σ H) (k : (∀ σ' H', E.nx σ' H' → E'.nx σ' H') ∧ (∀ v H', E.rt v H' → E'.rt v H') ∧ (∀ σ' H', E.bk σ' H' → E'.bk σ' H') ∧ (∀ σ' H', E.ct σ' H' → E'.ct σ' H')) : sS X st E' σ H := fun pins s I =>
  thn (h pins s I) fun f s' q => by
    cases f with
    | next => obtain ⟨σ', H', I', q⟩ := q; exact ⟨σ', H', I', k.1 _ _ q⟩
    | brk => obtain ⟨σ', H', I', q⟩ := q; exact ⟨σ', H', I', k.2.2.1 _ _ q⟩
    | cont => obtain ⟨σ', H', I', q⟩ := q; exact ⟨σ', H', I', k.2.2.2 _ _ q⟩
    | ret u => obtain ⟨v, σ', H', I', r, q⟩ := q; exact ⟨v, σ', H', I', r, k.2.1 _ _ q⟩
theorem ssS_mono {st : List Stmt} {σ : Slots} {H : Hp} {E E' : Ends} (h : ssS X st E σ H) (k : (∀ σ' H', E.nx σ' H' → E'.nx σ' H') ∧ (∀ v H', E.rt v H' → E'.rt v H') ∧ (∀ σ' H', E.bk σ' H' → E'.bk σ' H') ∧ (∀ σ' H', E.ct σ' H' → E'.ct σ' H')) : ssS X st E' σ H := fun pins s I =>
  thn (h pins s I) fun f s' q => by
    cases f with
    | next => obtain ⟨σ', H', I', q⟩ := q; exact ⟨σ', H', I', k.1 _ _ q⟩
    | brk => obtain ⟨σ', H', I', q⟩ := q; exact ⟨σ', H', I', k.2.2.1 _ _ q⟩
    | cont => obtain ⟨σ', H', I', q⟩ := q; exact ⟨σ', H', I', k.2.2.2 _ _ q⟩
    | ret u => obtain ⟨v, σ', H', I', r, q⟩ := q; exact ⟨v, σ', H', I', r, k.2.1 _ _ q⟩
theorem wipe_set {σ : Slots} {i : Nat} {o : Option V} : ∀ {vs : List Nat}, i ∈ vs → wipe (σ.set i o) vs = wipe σ vs := by
  have key : ∀ (vs : List Nat), i ∉ vs → wipe (σ.set i o) vs = (wipe σ vs).set i o := by
    intro vs
    induction vs with
    | nil => intro _; rfl
    | cons a vs ih =>
      intro h
      have h1 : i ≠ a := fun e => h (by rw [e]; exact List.mem_cons_self)
      have h2 : i ∉ vs := fun e => h (List.mem_cons_of_mem _ e)
      show (wipe (σ.set i o) vs).set a none = ((wipe σ vs).set a none).set i o
      rw [ih h2, List.set_comm _ _ h1]
  intro vs
  induction vs with
  | nil => intro h; cases h
  | cons a vs ih =>
    intro h
    show (wipe (σ.set i o) vs).set a none = (wipe σ vs).set a none
    by_cases hm : i ∈ vs
    · rw [ih hm]
    · rcases List.mem_cons.mp h with h | h
      · subst h; rw [key vs hm, List.set_set]
      · exact absurd h hm
theorem gg_name {i : Nat} {x : Str} {pos : Pos} {r : Rv} {Ψ : List Rv → Mem → Prop} {vs : List Nat} (nd : X.N.Nodup) (hN : X.N[i]? = some x) (hl : L2.Loc X.env.scope x) (hf : X.fn x = true ∨ X.env.scope.names.lookup x = some .local) (hvs : vs = [] ∨ i ∈ vs)
    (h : Ψ (ρ.set i r) M) : GG X (.Name x pos) r ρ M Ψ vs := fun B H σ v ok env q =>
  gS_of (pg_name nd hN hl hf) ⟨fun hv => by
    rcases hvs with e | e
    · exact absurd e hv
    · exact wipe_set e, B, M, _, ok, .refl, env_set (.some q) i env, h⟩
/-- several targets -/
def GGs (X : Cx) (ts : List Expr) (rs : List Rv) (ρ : List Rv) (M : Mem) (Ψ : List Rv → Mem → Prop) (vs : List Nat) : Prop :=
  ∀ B H σ us, Ok X.K B H M → EnvOk X.K B σ ρ → RvAll X.K B us rs → ∃ t, PGs X ts t ∧ t us σ H fun σ' H' => (vs ≠ [] → wipe σ' vs = wipe σ vs) ∧ PostN X.K B H M Ψ σ' H'
theorem ggs_nil {Ψ : List Rv → Mem → Prop} {vs : List Nat} (h : Ψ ρ M) : GGs X [] [] ρ M Ψ vs := fun B H σ us ok env q => by
  cases q
  exact ⟨gNil, pgs_nil, rfl, fun _ => rfl, B, M, ρ, ok, .refl, env, h⟩
/-- all names -/
theorem ggs_cons {i : Nat} {x : Str} {pos : Pos} {ts : List Expr} {r : Rv} {rs : List Rv} {Ψ : List Rv → Mem → Prop} {vs : List Nat} (nd : X.N.Nodup) (hN : X.N[i]? = some x) (hl : L2.Loc X.env.scope x) (hf : X.fn x = true ∨ X.env.scope.names.lookup x = some .local) (hvs : vs = [] ∨ i ∈ vs)
    (he : (assignEach (.Name x pos :: ts) X.env).map (·.2) = assign (.Name x pos) X.env :: (assignEach ts X.env).map (·.2))
    (h : GGs X ts rs (ρ.set i r) M Ψ vs) : GGs X (.Name x pos :: ts) (r :: rs) ρ M Ψ vs := fun B H σ us ok env q => by
  cases q with
  | cons q qs =>
    rename_i v us
    obtain ⟨t, ht, k⟩ := h B H (σ.set i (some v)) us ok (env_set (.some q) i env) qs
    refine ⟨gCons (gName i) t, pgs_cons (pg_name nd hN hl hf) ht he, v, us, rfl, ?_⟩
    show t us (σ.set i (some v)) H _
    have e : ∀ σ' H', ((vs ≠ [] → wipe σ' vs = wipe (σ.set i (some v)) vs) ∧ PostN X.K B H M Ψ σ' H') = ((vs ≠ [] → wipe σ' vs = wipe σ vs) ∧ PostN X.K B H M Ψ σ' H') := fun σ' H' => by
      rcases hvs with e | e
      · subst e; simp
      · rw [wipe_set e]
    have e2 : (fun σ' H' => (vs ≠ [] → wipe σ' vs = wipe (σ.set i (some v)) vs) ∧ PostN X.K B H M Ψ σ' H') = (fun σ' H' => (vs ≠ [] → wipe σ' vs = wipe σ vs) ∧ PostN X.K B H M Ψ σ' H') := by
      funext σ' H'; exact e σ' H'
    rw [e2] at k
    exact k
theorem gg_tup {ts : List Expr} {k : Nat} {pos : Pos} {rs : List Rv} {r : Rv} {Ψ : List Rv → Mem → Prop} {vs : List Nat} (hc : X.calm = true) (hr : r = .tup rs ∨ ∃ ds : List PyData, r = .d (.tuple ds) ∧ rs = ds.map Rv.d)
    (hn : (assignEach ts X.env).length = rs.length) (hs : (assignEach ts X.env).findIdx? (·.1) = none) (h : GGs X ts rs ρ M Ψ vs) : GG X (.Tuple ts k pos) r ρ M Ψ vs := fun B H σ v ok env q => by
  obtain ⟨a, xs, rfl, hq, ha⟩ : ∃ a xs, v = .ref a ∧ SqT X.K B a xs ∧ RvAll X.K B xs rs := by
    rcases hr with rfl | ⟨ds, rfl, rfl⟩
    · cases q with | tup h1 h2 => exact ⟨_, _, rfl, h1, h2⟩
    · cases q with | d q => cases q with | tup h1 h2 => exact ⟨_, _, rfl, h1, RvAll.ofData h2⟩
  obtain ⟨t, ht, k⟩ := h B H σ xs ok env ha
  exact gS_of (pg_tup hc ht hn hs) ⟨a, xs, rfl, sq_mono ok.ext hq, ha.length, k⟩

/-! ## statements -/
theorem gs_asg {tg e : Expr} {pos : Pos} (h1 : swapsWithSole [tg] e pos.line X.env = pure false) (h2 : swappedStores [tg] e X.env = pure none) (h3 : (assignEach [tg] X.env).map (·.2) = [assign tg X.env])
    (h : GE X e ρ M (fun r M1 => GG X tg r ρ M1 D.nx []) D.xx) : GS X (.Assign [tg] e pos) ρ M D := fun B H σ ok env tk =>
  sS_of (ps_asg pe_S pg_S h1 h2 h3) (one h ok env tk fun v H1 B1 M1 r o1 f1 q1 k => gS_mono (k B1 H1 σ v o1 (env_mono f1.ex env) q1) fun σ' H' q => postN_after f1 q.2)
theorem gs_set {i : Nat} {x : Str} {e : Expr} {pos pos' : Pos} (hv : Var X i x) (nd : X.N.Nodup) (hs : swapsWith e (some (.Name x pos')) pos.line X.env = pure false)
    (h : GE X e ρ M (fun r M1 => D.nx (ρ.set i r) M1) D.xx) : GS X (.Assign [.Name x pos'] e pos) ρ M D := fun B H σ ok env tk =>
  sS_of (ps_set nd hv.n hv.l pe_S hs (.inl hv.f)) (one h ok env tk fun v H1 B1 M1 r o1 f1 q1 k => ⟨B1, M1, _, o1, f1, env_set (.some q1) i (env_mono f1.ex env), k⟩)
theorem gs_ret {e : Expr} {pos : Pos} (h : GE X e ρ M D.rt D.xx) : GS X (.Return (some e) pos) ρ M D := fun B H σ ok env tk => sS_of (ps_ret pe_S) (h B H σ ok env tk)
theorem gs_retN {pos : Pos} (h : D.rt (.d .none) M) : GS X (.Return none pos) ρ M D := fun B H σ ok env tk => sS_of ps_retN ⟨B, M, _, ok, .refl, .d .non, h⟩
theorem gs_expr {e : Expr} {pos : Pos} (hs : swapsWith e none pos.line X.env = pure false) (h : GE X e ρ M (fun _ M1 => D.nx ρ M1) D.xx) : GS X (.Expr e pos) ρ M D := fun B H σ ok env tk =>
  sS_of (ps_expr pe_S hs) (one h ok env tk fun v H1 B1 M1 r o1 f1 q1 k => ⟨B1, M1, ρ, o1, f1, env_mono f1.ex env, k⟩)
theorem gs_if {c : Expr} {a b : List Stmt} {pos : Pos} (h : GT X c ρ M (fun k M1 => (k = true → GSs X a ρ M1 D) ∧ (k = false → GSs X b ρ M1 D)) D.xx) : GS X (.If c a b pos) ρ M D := fun B H σ ok env tk =>
  sS_of (ps_if pt_S pss_S pss_S) (tS_mono (h B H σ ok env tk) fun k H1 ⟨B1, M1, o1, f1, q⟩ => by
    cases k with
    | true => exact ssS_mono (q.1 rfl B1 H1 σ o1 (env_mono f1.ex env) (tk_after tk f1)) (ends_after f1)
    | false => exact ssS_mono (q.2 rfl B1 H1 σ o1 (env_mono f1.ex env) (tk_after tk f1)) (ends_after f1))
theorem gss_nil (h : D.nx ρ M) : GSs X [] ρ M D := fun B H σ ok env tk => ssS_of pss_nil ⟨B, M, ρ, ok, .refl, env, h⟩
theorem gss_cons {st : Stmt} {rest : List Stmt} (h : GS X st ρ M { D with nx := fun ρ1 M1 => GSs X rest ρ1 M1 D }) : GSs X (st :: rest) ρ M D := fun B H σ ok env tk =>
  ssS_of (pss_cons ps_S pss_S) (sS_mono (h B H σ ok env tk) ⟨fun σ' H' ⟨B1, M1, ρ1, o1, f1, e1, k⟩ => ssS_mono (k B1 H' σ' o1 e1 (tk_after tk f1)) (ends_after f1), fun _ _ q => q, fun _ _ q => q, fun _ _ q => q⟩)
theorem gs_break {pos : Pos} (h : D.bk ρ M) : GS X (.Break pos) ρ M D := fun B H σ ok env tk => sS_of ps_break ⟨B, M, ρ, ok, .refl, env, h⟩
theorem gs_cont {pos : Pos} (h : D.ct ρ M) : GS X (.Continue pos) ρ M D := fun B H σ ok env tk => sS_of ps_continue ⟨B, M, ρ, ok, .refl, env, h⟩
theorem gs_pass {pos : Pos} (h : D.nx ρ M) : GS X (.Pass pos) ρ M D := fun B H σ ok env tk => sS_of ps_pass ⟨B, M, ρ, ok, .refl, env, h⟩
/-- a, b = e1, e2 -/
theorem gs_par {i j : Nat} {x y : Str} {a b : Expr} {px py pt pt2 pos : Pos} {kt k2 : Nat} (hx : Var X i x) (hy : Var X j y) (hc : X.calm = true) (nd : X.N.Nodup) (hij : i ≠ j) (lx : X.env.scope.names.lookup x = some .local) (ly : X.env.scope.names.lookup y = some .local)
    (hs : swappedStores [.Tuple [.Name x px, .Name y py] kt pt] (.Tuple [a, b] k2 pt2) X.env = pure (some [x, y])) (hw : swapsWithSole [.Tuple [.Name x px, .Name y py] kt pt] (.Tuple [a, b] k2 pt2) pos.line X.env = pure false)
    (h : GA X [a, b] ρ M (fun rs M1 => ∃ r q, rs = [r, q] ∧ D.nx ((ρ.set i r).set j q) M1) D.xx) : GS X (.Assign [.Tuple [.Name x px, .Name y py] kt pt] (.Tuple [a, b] k2 pt2) pos) ρ M D := fun B H σ ok env tk =>
  sS_of (ps_par hc nd hx.n hy.n hij lx ly pa_S hs hw) (args h ok env tk fun vs H1 B1 M1 rs o1 f1 q1 ⟨r, q, e, k⟩ => by
    subst e
    cases q1 with
    | cons q1 q2 => cases q2 with
      | cons q2 q3 => cases q3; exact ⟨_, _, rfl, B1, M1, _, o1, f1, env_set (.some q2) j (env_set (.some q1) i (env_mono f1.ex env)), k⟩)
/-- a list that will not change any more: a ghost step -/
theorem gss_freeze {st : List Stmt} {M1 M2 : Mem} {a : Addr} {ds : List PyData} {i : Nat} (hi : ρ[i]? = some (.cell a)) (h : GSs X st (ρ.set i (.d (.list ds))) (M1 ++ M2) D) : GSs X st ρ (M1 ++ (a, Is (ds.map Rv.d)) :: M2) D := fun B H σ ok env tk => by
  obtain ⟨xs, rs, hx, hP, o1, f1⟩ := ok_freeze ok
  have e : rs = ds.map Rv.d := hP
  subst e
  obtain ⟨v, hv, hr⟩ := env_get i env hi rfl
  cases hr
  have env1 : EnvOk X.K (upd B a (.lst xs)) σ (ρ.set i (.d (.list ds))) := by
    have q := env_set (B := upd B a (.lst xs)) (.some (v := .ref a) (.d (.lst (.of upd_same) (dpAll_mono f1.ex _ hx.data)))) i (env_mono f1.ex env)
    have hl : i < σ.length := (List.getElem?_eq_some_iff.mp hv).1
    have e : σ.set i (some (.ref a)) = σ := by
      refine List.ext_getElem? fun j => ?_
      by_cases hj : i = j
      · subst hj; rw [List.getElem?_set_self hl, hv]
      · rw [List.getElem?_set_ne hj]
    rw [e] at q
    exact q
  exact ssS_mono (h _ H σ o1 env1 (tk_after tk f1)) (ends_after f1)
/-- .. at a value -/
theorem ge_freeze {e : Expr} (h : GE X e ρ M (fun r M1 => ∃ a ds Ma Mb, r = .cell a ∧ M1 = Ma ++ (a, Is (ds.map Rv.d)) :: Mb ∧ Φ (.d (.list ds)) (Ma ++ Mb)) Ξ) : GE X e ρ M Φ Ξ := fun B H σ ok env tk =>
  one h ok env tk fun v H1 B1 M1 r o1 f1 q1 ⟨a, ds, Ma, Mb, e1, e2, k⟩ => by
    subst e1 e2
    cases q1
    obtain ⟨xs, rs, hx, hP, o2, f2⟩ := ok_freeze o1
    have e : rs = ds.map Rv.d := hP
    subst e
    exact ⟨_, _, _, o2, f1.trans f2, .d (.lst (.of upd_same) (dpAll_mono f2.ex _ hx.data)), k⟩

/-! ## for -/
def iS (X : Cx) (tg iter : Expr) : TI := fun σ H R => ∀ (pins : List (Addr × Obj)) (s : Shared), Inv X pins σ H s →
  wpAny (model X.prog X.w) X.A (eval iter X.env) (fun v s1 => wpAny (model X.prog X.w) X.A (pyIter v) (PIE X pins σ tg R) X.xe s1) X.xe s
theorem pi_S {tg iter : Expr} : PI X tg iter (iS X tg iter) := ⟨fun pins s _ _ _ I h => h pins s I⟩
theorem iS_of {tg iter : Expr} {w : TI} (h : PI X tg iter w) {σ : Slots} {H : Hp} {R : It → Hp → Prop} (q : w σ H R) : iS X tg iter σ H R := fun pins s I => h.run pins s σ H R I q
theorem iS_mono {tg iter : Expr} {σ : Slots} {H : Hp} {R R' : It → Hp → Prop} (h : iS X tg iter σ H R) (k : ∀ J H', R J H' → R' J H') : iS X tg iter σ H R' := fun pins s I =>
  thn (h pins s I) fun v s1 q => thn q fun itv s2 ⟨it, fp, tn, J, H', a, b, c, d, e, r⟩ => ⟨it, fp, tn, J, H', a, b, c, d, e, k _ _ r⟩
/-- one turn of a walk gives the item r -/
def Step (K : Frg) (B1 : Hp) (r : Rv) (x : V) (H H' : Hp) : Prop := ∀ B M, Ok K B H M → Same B1 B → ∃ B', Ok K B' H' M ∧ Fr B H M B' H' M ∧ RvOk K B' x r
def Source (X : Cx) (B H : Hp) (M : Mem) (Θ : List Rv → Mem → Prop) (J : It) (H1 : Hp) : Prop :=
  ∃ B1 M1 items, Ok X.K B1 H1 M1 ∧ Fr B H M B1 H1 M1 ∧ Θ items M1 ∧ Walk J items.length (fun H => Same B1 H) (fun i H x H' => ∀ r, items[i]? = some r → Step X.K B1 r x H H')
def GI (X : Cx) (tg iter : Expr) (ρ : List Rv) (M : Mem) (Θ : List Rv → Mem → Prop) (Ξ : Xi) : Prop :=
  ∀ B H σ, Ok X.K B H M → EnvOk X.K B σ ρ → Takes X (PostX X.K B H M Ξ) → iS X tg iter σ H (Source X B H M Θ)
/-- the turns of a for -/
def ForD (X : Cx) (tg : Expr) (body : List Stmt) (D : DE) : List Rv → List Rv → Mem → Prop
  | [], ρ, M => D.nx ρ M
  | r :: rs, ρ, M => GG X tg r ρ M (fun ρ2 M2 => GSs X body ρ2 M2 { D with nx := ForD X tg body D rs, ct := ForD X tg body D rs, bk := D.nx }) []
theorem forD_at {tg : Expr} {body : List Stmt} : ∀ (items : List Rv) (i : Nat) (r : Rv), items[i]? = some r → ∀ ρ' M', ForD X tg body D (items.drop i) ρ' M' →
    GG X tg r ρ' M' (fun ρ2 M2 => GSs X body ρ2 M2 { D with nx := ForD X tg body D (items.drop (i + 1)), ct := ForD X tg body D (items.drop (i + 1)), bk := D.nx }) [] := by
  intro items i r h ρ' M' q
  have hl := (List.getElem?_eq_some_iff.mp h).1
  rw [List.drop_eq_getElem_cons hl] at q
  have e : items[i] = r := (List.getElem?_eq_some_iff.mp h).2
  rw [e] at q
  exact q
theorem gs_for {tg iter : Expr} {body : List Stmt} {pos : Pos} (hp : PassesOwn (model X.prog X.w) X.A X.env X.xe) (hc : X.calm = true) (hf : ∀ x, foldedSetIterable iter X.env x = pure x)
    (h : GI X tg iter ρ M (fun items M1 => ForD X tg body D items ρ M1) D.xx) : GS X (.For tg iter body [] pos) ρ M D := fun B H σ ok env tk => by
  refine sS_of (ps_for hp hc pi_S pg_S pss_S hf) ?_
  refine iS_mono (h B H σ ok env tk) fun J H1 ⟨B1, M1, items, o1, f1, hF, w⟩ => ?_
  refine for_it w (fun i σ' H' => PostN X.K B1 H1 M1 (ForD X tg body D (items.drop i)) σ' H') ⟨B1, M1, ρ, o1, .refl, env_mono f1.ex env, hF⟩ (fun i σ' H' _ ⟨B2, M2, ρ2, o2, f2, _, _⟩ => f2.ex.trans o2.ext)
    (fun i x σ' H2 H3 hi ⟨B2, M2, ρ2, o2, f2, e2, k⟩ y => ?_) (fun σ' H' q => ?_)
  · obtain ⟨r, hr⟩ : ∃ r, items[i]? = some r := ⟨items[i], by simp [hi]⟩
    obtain ⟨B3, o3, f3, q3⟩ := y r hr B2 M2 o2 f2.ex
    refine gS_mono (forD_at items i r hr ρ2 M2 k B3 H3 σ' x o3 (env_mono f3.ex e2) q3) fun σ4 H4 ⟨_, B4, M4, ρ4, o4, f4, e4, k4⟩ => ?_
    have f14 : Fr B1 H1 M1 B4 H4 M4 := (f2.trans f3).trans f4
    refine ssS_mono (k4 B4 H4 σ4 o4 e4 (tk_after tk (f1.trans f14))) ⟨fun _ _ => postN_after f14, fun _ _ => postE_after (f1.trans f14), fun _ _ => postN_after (f1.trans f14), fun _ _ => postN_after f14⟩
  · rw [List.drop_length] at q
    exact postN_after f1 q
theorem forD_map {α : Type} {tg : Expr} {body : List Stmt} {xs : List α} {g : α → Rv} (Iv : List α → List Rv → Mem → Prop) (h0 : Iv [] ρ M)
    (hs : ∀ pre x post ρ' M', xs = pre ++ x :: post → Iv pre ρ' M' → GG X tg (g x) ρ' M' (fun ρ2 M2 => GSs X body ρ2 M2 { D with nx := Iv (pre ++ [x]), ct := Iv (pre ++ [x]), bk := D.nx }) [])
    (hd : ∀ ρ' M', Iv xs ρ' M' → D.nx ρ' M') : ForD X tg body D (xs.map g) ρ M := by
  have main : ∀ (post pre : List α) ρ' M', xs = pre ++ post → Iv pre ρ' M' → ForD X tg body D (post.map g) ρ' M' := by
    intro post
    induction post with
    | nil => intro pre ρ' M' e q; rw [List.append_nil] at e; subst e; exact hd _ _ q
    | cons x post ih =>
      intro pre ρ' M' e q
      show GG _ _ _ _ _ _ _
      have k := hs pre x post ρ' M' e q
      intro B H σ v ok env r
      refine gS_mono (k B H σ v ok env r) fun σ' H' ⟨w, B2, M2, ρ2, o2, f2, e2, k2⟩ => ⟨w, B2, M2, ρ2, o2, f2, e2, ?_⟩
      intro B3 H3 σ3 o3 e3 t3
      refine ssS_mono (k2 B3 H3 σ3 o3 e3 t3) ⟨fun _ _ => postN_mono fun r M' z => ih (pre ++ [x]) r M' (by rw [e]; simp) z, fun _ _ z => z, fun _ _ z => z, fun _ _ => postN_mono fun r M' z => ih (pre ++ [x]) r M' (by rw [e]; simp) z⟩
  exact main xs [] ρ M rfl h0
/-! ### what is walked -/
theorem step_same {K : Frg} {B1 : Hp} {r : Rv} {x : V} {H : Hp} (h : RvOk K B1 x r) : Step K B1 r x H H := fun B M ok s => ⟨B, ok, .refl, rv_mono s h⟩
theorem gi_data {tg iter : Expr} {Θ : List Rv → Mem → Prop} (h : GE X iter ρ M (fun r M1 => ∃ ds, r = .d (.list ds) ∧ Θ (ds.map Rv.d) M1) Ξ) : GI X tg iter ρ M Θ Ξ := fun B H σ ok env tk =>
  iS_of (pi_list pe_S) (one h ok env tk fun v H1 B1 M1 r o1 f1 q1 ⟨ds, e, k⟩ => by
    subst e
    cases q1 with
    | d q1 => cases q1 with
      | lst hs ha =>
        rename_i a xs
        refine ⟨a, rfl, ⟨xs, o1.ext.seq hs⟩, B1, M1, _, o1, f1, k, ?_⟩
        rw [List.length_map, ← DpAll.len ha]
        refine walk_list.mono (fun H' s => s.seq hs) fun i H2 x H3 hi s y r hr => ?_
        obtain ⟨e3, hx⟩ := y
        subst e3
        rw [List.getElem?_map] at hr
        cases hd : ds[i]? with
        | none => rw [hd] at hr; cases hr
        | some d =>
          rw [hd] at hr; cases hr
          obtain ⟨v, h1, h2⟩ := DpAll.get i d ha hd
          rw [hx] at h1; cases h1
          exact step_same (.d h2))
theorem gi_tup {tg iter : Expr} {Θ : List Rv → Mem → Prop} (h : GE X iter ρ M (fun r M1 => ∃ ds, r = .d (.tuple ds) ∧ Θ (ds.map Rv.d) M1) Ξ) : GI X tg iter ρ M Θ Ξ := fun B H σ ok env tk =>
  iS_of (pi_tup pe_S) (one h ok env tk fun v H1 B1 M1 r o1 f1 q1 ⟨ds, e, k⟩ => by
    subst e
    cases q1 with
    | d q1 => cases q1 with
      | tup hs ha =>
        rename_i a xs
        refine ⟨a, rfl, ⟨xs, sq_mono o1.ext hs⟩, B1, M1, _, o1, f1, k, ?_⟩
        rw [List.length_map, ← DpAll.len ha]
        refine walk_tup.mono (fun H' s => sq_mono s hs) fun i H2 x H3 hi s y r hr => ?_
        obtain ⟨e3, hx⟩ := y
        subst e3
        rw [List.getElem?_map] at hr
        cases hd : ds[i]? with
        | none => rw [hd] at hr; cases hr
        | some d =>
          rw [hd] at hr; cases hr
          obtain ⟨v, h1, h2⟩ := DpAll.get i d ha hd
          rw [hx] at h1; cases h1
          exact step_same (.d h2))
theorem gi_range1 {tg a : Expr} {p pos : Pos} {Θ : List Rv → Mem → Prop} (hb : X.mg "range" = none) (hg : Gl X "range") (hs : starEach [a] X.env = [(false, eval a X.env)])
    (h : GA X [a] ρ M (fun rs M1 => ∃ j : Int, rs = [.d (.int j)] ∧ -(2 ^ 62) ≤ j ∧ j < 2 ^ 62 ∧ Θ ((List.range j.toNat).map fun i => .d (.int (i : Nat))) M1) Ξ) : GI X tg (.Call (.Name "range" p) [a] [] pos) ρ M Θ Ξ := fun B H σ ok env tk =>
  iS_of (pi_range1 hg hb pa_S hs) (args h ok env tk fun vs H1 B1 M1 rs o1 f1 q1 ⟨j, e, hj1, hj2, k⟩ => by
    subst e
    cases q1 with
    | cons q q' =>
      cases q'
      refine ⟨j, by rw [int_of q], hj1, hj2, B1, M1, _, o1, f1, k, ?_⟩
      rw [List.length_map, List.length_range]
      refine walk_range.mono (fun _ _ => trivial) fun i H2 x H3 hi s y r hr => ?_
      obtain ⟨e3, hx⟩ := y
      subst e3 hx
      rw [List.getElem?_map, List.getElem?_range hi] at hr
      cases hr
      exact step_same (by show RvOk X.K B1 (V.int (0 + (i : Int))) _; rw [Int.zero_add]; exact .d (.int _)))
theorem pairStep {K : Frg} {B1 : Hp} {p q : Rv} {dp dq : PyData} {x y : V} {H : Hp} {T : Addr} (hT : H T = none) (hx : Dp K B1 x dp) (hy : Dp K B1 y dq) : Step K B1 (.d (.tuple [dp, dq])) (.ref T) H (upd H T (.tup [x, y])) := fun B M ok s => by
  have f := ok_frz (o := .tup [x, y]) ok hT
  exact ⟨_, f.1, f.2, .d (.tup (.of upd_same) (.cons (dp_mono (s.trans f.2.ex) _ hx) (.cons (dp_mono (s.trans f.2.ex) _ hy) .nil)))⟩
theorem gi_zip {e e2 : Expr} {p pos tpos : Pos} {elts : List Expr} {kk : Nat} {Θ : List Rv → Mem → Prop} (hb : X.mg "zip" = none) (hg : Gl X "zip") (hs : starEach [e, e2] X.env = (false, eval e X.env) :: starEach [e2] X.env) (hpl : (backTo pos (starEach [e2] X.env)).any (·.1) = false)
    (h : GA X [e, e2] ρ M (fun rs M1 => ∃ xs ys, rs = [.d (.list xs), .d (.list ys)] ∧ Θ ((xs.zip ys).map fun p => .d (.tuple [p.1, p.2])) M1) Ξ) : GI X (.Tuple elts kk tpos) (.Call (.Name "zip" p) [e, e2] [] pos) ρ M Θ Ξ := fun B H σ ok env tk =>
  iS_of (pi_zip hg hb pa_S hs hpl) (args h ok env tk fun vs H1 B1 M1 rs o1 f1 q1 ⟨ds, es, e, k⟩ => by
    subst e
    cases q1 with
    | cons q q' => cases q' with
      | cons q2 q3 =>
        cases q3
        cases q with
        | d q => cases q with
          | lst ha hda => cases q2 with
            | d q2 => cases q2 with
              | lst hb hdb =>
                rename_i a xs b ys
                refine ⟨a, b, xs, ys, rfl, o1.ext.seq ha, o1.ext.seq hb, B1, M1, _, o1, f1, k, ?_⟩
                rw [List.length_map, List.length_zip, ← DpAll.len hda, ← DpAll.len hdb]
                refine (walk_zip rfl).mono (fun H' s => ⟨s.seq ha, s.seq hb⟩) fun i H2 x H3 hi s y r hr => ?_
                obtain ⟨T, x1, y1, ev, hT, e3, h1, h2⟩ := y
                subst ev e3
                have l1 : i < ds.length := by rw [← DpAll.len hda]; omega
                have l2 : i < es.length := by rw [← DpAll.len hdb]; omega
                have hr' : r = .d (.tuple [ds[i], es[i]]) := by
                  rw [List.getElem?_map, List.getElem?_eq_getElem (by rw [List.length_zip]; omega), List.getElem_zip] at hr
                  exact (Option.some.inj hr).symm
                subst hr'
                obtain ⟨v1, g1, k1⟩ := DpAll.get i ds[i] hda (List.getElem?_eq_getElem l1)
                obtain ⟨v2, g2, k2⟩ := DpAll.get i es[i] hdb (List.getElem?_eq_getElem l2)
                cases (show some x1 = some v1 from h1.symm.trans g1)
                cases (show some y1 = some v2 from h2.symm.trans g2)
                exact pairStep (p := .any) (q := .any) hT k1 k2)
theorem gi_enum {e : Expr} {p pos tpos : Pos} {elts : List Expr} {kk : Nat} {Θ : List Rv → Mem → Prop} (hb : X.mg "enumerate" = none) (hg : Gl X "enumerate") (hs : starEach [e] X.env = [(false, eval e X.env)])
    (h : GA X [e] ρ M (fun rs M1 => ∃ xs, rs = [.d (.list xs)] ∧ Θ (xs.zipIdx.map fun p => .d (.tuple [.int (p.2 : Nat), p.1])) M1) Ξ) : GI X (.Tuple elts kk tpos) (.Call (.Name "enumerate" p) [e] [] pos) ρ M Θ Ξ := fun B H σ ok env tk =>
  iS_of (pi_enum hg hb pa_S hs) (args h ok env tk fun vs H1 B1 M1 rs o1 f1 q1 ⟨ds, e, k⟩ => by
    subst e
    cases q1 with
    | cons q q' =>
      cases q'
      cases q with
      | d q => cases q with
        | lst ha hda =>
          rename_i a xs
          refine ⟨a, xs, rfl, o1.ext.seq ha, B1, M1, _, o1, f1, k, ?_⟩
          rw [List.length_map, List.length_zipIdx, ← DpAll.len hda]
          refine walk_enum.mono (fun H' s => s.seq ha) fun i H2 x H3 hi s y r hr => ?_
          obtain ⟨T, x1, y1, ev, hT, e3, h1, h2⟩ := y
          subst ev e3
          have l1 : i < ds.length := by rw [← DpAll.len hda]; omega
          have hr' : r = .d (.tuple [.int (i : Nat), ds[i]]) := by
            rw [List.getElem?_map, List.getElem?_zipIdx, List.getElem?_eq_getElem l1] at hr
            simpa using (Option.some.inj hr).symm
          subst hr'
          obtain ⟨v1, g1, k1⟩ := DpAll.get i ds[i] hda (List.getElem?_eq_getElem l1)
          cases (show some y1 = some v1 from h2.symm.trans g1)
          cases (show some (V.int (i : Nat)) = some x1 from h1)
          exact pairStep (p := .any) (q := .any) hT (.int _) k1)
end
end Dl

set_option Elab.async false
set_option linter.all false
set_option maxRecDepth 100000
set_option maxHeartbeats 4000000
namespace Dl
open PySem PySem.Spec PyProof.Rows L2

/-! ## what a def promises -/
abbrev Prom := List Rv → Mem → Pst → (EV → Mem → Prop) → Prop
def PostF (K : Frg) (B H : Hp) (M : Mem) (Ξ : EV → Mem → Prop) : XK := fun cls d H' => ∃ B' M' x, Ok K B' H' M' ∧ Fr B H M B' H' M' ∧ EvOk K B' H' x cls d ∧ Ξ x M'
def SpD (K : Frg) (pd : Prom) : Sp := fun vs H Q E => ∃ B M rs Φ Ξ, Ok K B H M ∧ RvAll K B vs rs ∧ pd rs M Φ Ξ ∧ (∀ v H', PostE K B H M Φ v H' → Q v H') ∧ ∀ cls d H', PostF K B H M Ξ cls d H' → E cls d H'
structure FnD (P : Program) (w : World) (K : Frg) (mg : Str → Option Value) (base : Heap) (k : Nat) (f : Addr) (fd : FuncData) (ps : List Str) (pd : Prom) : Prop where
  len : ∀ rs M Φ Ξ, pd rs M Φ Ξ → rs.length = ps.length
  run : ∀ (A : Around) (outer : List Env) (s : Shared) (H : Hp) (ar : Args) (us : List Value) (vs : List V) (Q : VK) (E : XK), Room k A → A.guards = some [] → Env0 P w K mg base A outer s H →
    BindsTo s fd ar (ps.zip us) → Vals vs us → SpD K pd vs H Q E → codeAny (model P w) A (.call (.ref f) ar) (CR (L2.CX P w) outer P w H s Q E) s
theorem FnD.mono {P : Program} {w : World} {K : Frg} {mg : Str → Option Value} {base : Heap} {j k : Nat} {f : Addr} {fd : FuncData} {ps : List Str} {pd : Prom} (F : FnD P w K mg base j f fd ps pd) (h : j ≤ k) : FnD P w K mg base k f fd ps pd :=
  ⟨F.len, fun A outer s H ar us vs Q E hr => F.run A outer s H ar us vs Q E (hr.mono h)⟩
/-- what the body's walk is given -/
structure Cxt (X : Cx) (N : List Str) (sc : Scope) : Prop where
  hN : X.N = N
  sc : X.env.scope = sc
  nd : X.N.Nodup
  calm : X.calm = true
  fn : ∀ x, X.fn x = true
  hs : X.stack = X.env :: X.outer
  hf : X.env.frame = some X.env.locals
  pass : PassesOwn (model X.prog X.w) X.A X.env X.xe
  gu : X.A.guards = some []
theorem env_of_all {K : Frg} {B : Hp} : ∀ {vs : List V} {rs : List Rv} (h : RvAll K B vs rs), EnvOk K B (vs.map some) rs
  | _, _, .nil => .nil
  | _, _, .cons h a => .cons (.some h) (env_of_all a)
theorem env_append {K : Frg} {B : Hp} : ∀ {σ τ : Slots} {ρ κ : List Rv}, EnvOk K B σ ρ → EnvOk K B τ κ → EnvOk K B (σ ++ τ) (ρ ++ κ)
  | _, _, _, _, .nil, h => h
  | _, _, _, _, .cons h a, b => .cons h (env_append a b)
theorem env_blank {K : Frg} {B : Hp} : ∀ (ex : List Rv), (ex.all Rv.isAny) = true → EnvOk K B (List.replicate ex.length none) ex
  | [], _ => .nil
  | r :: ex, h => by
    rw [List.all_cons, Bool.and_eq_true] at h
    refine .cons ?_ (env_blank ex h.2)
    cases r with
    | any => exact .none1
    | mu => exact .none2
    | d _ => cases h.1
    | cell _ => cases h.1
    | tup _ => cases h.1
    | raw _ => cases h.1
section
variable {P : Program} {w : World} {K : Frg} {mg : Str → Option Value} {base : Heap}
/-- THE RULE for a def: from its body's walk -/
theorem Fun.okD {x qual : Str} {st : Stmt} {f : Addr} {fd : FuncData} {N ps : List Str} {k : Nat} {pd : Prom} (ex : List Rv) (F : L2.Fun K x qual st f fd) (S : FnScope N ps (defScope st))
    (hex : ex.length = N.length - ps.length) (hany : ex.all Rv.isAny = true) (len : ∀ rs M Φ Ξ, pd rs M Φ Ξ → rs.length = ps.length)
    (hbody : ∀ X : Cx, X.prog = P → X.w = w → X.K = K → X.mg = mg → X.base = base → Cxt X N (defScope st) → Room k X.A → ∀ rs M Φ Ξ, pd rs M Φ Ξ →
      GSs X (defBody st) (rs ++ ex) M { nx := fun _ M' => Φ (.d .none) M', rt := Φ, xx := fun x _ M' => Ξ x M' }) : FnD P w K mg base (k + 1) f fd ps pd := by
  obtain ⟨oc, od, kV, doc, pm, an, cdv, ct, osl, rfl, lk, hcd⟩ := F.ex
  refine ⟨len, fun A outer s H ar us vs Q E hr hgu e0 hb r hsp => ?_⟩
  obtain ⟨B, M, rs, Φ, Ξ, ok, ra, hpd, hQ, hE⟩ := hsp
  have hl : vs.length = ps.length := ra.length.trans (len _ _ _ _ hpd)
  have inH : K.In s.heap := e0.mod.kin.keeps fun b o e => (e0.bs b o e).1
  have lim : s.heap.NoLimit := e0.mod.nolimit.keeps fun b o e => (e0.bs b o e).1
  refine codeAny_call_function hr.depth (inH _ _ lk) rfl S.co S.gen rfl (PySem.W.codeRec_of inH hcd) (hb _ _ _ _ ?_)
  refine wpAny_newFunctionEnv_cells S.kind (fun y hy => ?_) fun env he s1 xx => ?_
  · rcases S.par y.1 (List.of_mem_zip hy).1 with q | q
    · exact .inl q
    · exact .inr ⟨q, PySem.W.cellsFrom_some _ _ _ (.inl q)⟩
  subst he
  refine ⟨lim.keeps xx.toInCall.keep, codeAny_func ?_⟩
  have I := inv_start (CX := L2.CX P w) (mg := mg) (base := base) (E := E) S hr.hd e0 hl r xx
  let X : Cx := cxOf (L2.CX P w) P w K mg base N qual (defScope st) f cdv A outer s H E
  have cx : Cxt X N (defScope st) := ⟨rfl, rfl, S.nd, rfl, fun _ => rfl, rfl, rfl, passes_of rfl, hgu⟩
  have tk : Takes X (PostX K B H M (fun x _ M' => Ξ x M')) := (takes_of (X := X) (E := E) rfl rfl rfl rfl).imp fun c d σ H' ⟨B', M', ρ', x, o, f, e, v, q⟩ => hE c d H' ⟨B', M', x, o, f, v, q⟩
  have env0 : EnvOk K B (L2.start N vs) (rs ++ ex) := by
    refine env_append (env_of_all ra) ?_
    rw [hl, ← hex]
    exact env_blank ex hany
  have run := hbody X rfl rfl rfl rfl rfl cx (hr.deeper _) rs M Φ Ξ hpd B H (L2.start N vs) ok env0 tk [] s1 I
  refine wpAny_mono run (fun fl s' hs => ?_) fun e s' hs => hs
  have fin : ∀ {σ' : Slots} {H' : Hp} {v : V} {u : Value}, Inv X [] σ' H' s' → RelV v u → Q v H' → CE outer P w H s Q u s' := fun J rv q => ⟨_, _, J.os, J.bare, J.base, J.hok, rv, q⟩
  cases fl with
  | ret u => exact let ⟨v, σ', H', J, rv, q⟩ := hs; fin J rv (hQ _ _ q)
  | next => exact let ⟨σ', H', J, B', M', ρ', o, g, e, q⟩ := hs; fin (v := V.non) (u := Value.none) J rfl (hQ _ _ ⟨B', M', .d .none, o, g, .d .non, q⟩)
  | brk => exact let ⟨_, _, _, _, _, _, _, _, _, q⟩ := hs; q.elim
  | cont => exact let ⟨_, _, _, _, _, _, _, _, _, q⟩ := hs; q.elim
end

/-! ## calls -/
section
variable {X : Cx} {ρ : List Rv} {M : Mem} {Φ : Pst} {Ξ : Xi} {D : DE}
/-- the keywords' values in the parameters' order -/
def pick {α : Type} (ks ps : List Str) (ws : List α) : List α := ps.filterMap fun p => (ks.zip ws).lookup p
/-- a def that may be called by the name x; ord: the orders of keywords in which it is called -/
structure Def (X : Cx) (x : Str) (k : Nat) (ps : List Str) (ord : List (List Str)) (pd : Prom) : Prop where
  ex : ∃ f fd, FnD X.prog X.w X.K X.mg X.base k f fd ps pd ∧ X.mg x = some (.ref f) ∧ PySem.W.keepIn X.K (.ref f) = true ∧
    (∀ us : List Value, us.length = ps.length → bindArgs fd ⟨us, []⟩ = pure (ps.zip us)) ∧
    ∀ ks ∈ ord, ∀ ws : List Value, ws.length = ks.length → bindArgs fd ⟨[], ks.zip ws⟩ = pure (ps.zip (pick ks ps ws))
  d : (x == ("__debug__" : Str)) = false
theorem Def.mono {x : Str} {j k : Nat} {ps : List Str} {ord : List (List Str)} {pd : Prom} (d : Def X x j ps ord pd) (h : j ≤ k) : Def X x k ps ord pd :=
  ⟨let ⟨f, fd, F, r⟩ := d.ex; ⟨f, fd, F.mono h, r⟩, d.d⟩
theorem lookup_rel {α β : Type} {R : α → β → Prop} (p : Str) : ∀ {ks : List Str} {xs : List α} {ys : List β}, Paired R xs ys → (∀ y, (ks.zip ys).lookup p = some y → ∃ x, (ks.zip xs).lookup p = some x ∧ R x y) ∧ ((ks.zip ys).lookup p = none → (ks.zip xs).lookup p = none)
  | [], _, _, _ => ⟨fun _ h => by simp at h, fun _ => rfl⟩
  | k :: ks, _, _, .nil => ⟨fun _ h => by simp at h, fun _ => rfl⟩
  | k :: ks, _, _, .cons (a := x) (b := y) r t => by
    have ih := lookup_rel p (ks := ks) t
    rw [List.zip_cons_cons, List.zip_cons_cons, List.lookup_cons, List.lookup_cons]
    cases e : p == k with
    | true => exact ⟨fun z h => ⟨_, rfl, by cases h; exact r⟩, fun h => by cases h⟩
    | false => exact ih
theorem pick_rel {α β : Type} {R : α → β → Prop} {ks : List Str} {xs : List α} {ys : List β} (h : Paired R xs ys) : ∀ ps : List Str, Paired R (pick ks ps xs) (pick ks ps ys)
  | [] => .nil
  | p :: ps => by
    have ih := pick_rel (ks := ks) h ps
    have l := lookup_rel p (ks := ks) h
    unfold pick at ih ⊢
    rw [List.filterMap_cons, List.filterMap_cons]
    cases e : (ks.zip ys).lookup p with
    | none => rw [l.2 e]; exact ih
    | some y =>
      obtain ⟨x, e2, r⟩ := l.1 y e
      rw [e2]
      exact .cons r ih
theorem RvAll.pair {K : Frg} {B : Hp} : ∀ {vs : List V} {rs : List Rv}, RvAll K B vs rs → Paired (RvOk K B) vs rs
  | _, _, .nil => .nil
  | _, _, .cons h a => .cons h (RvAll.pair a)
theorem RvAll.ofPair {K : Frg} {B : Hp} : ∀ {vs : List V} {rs : List Rv}, Paired (RvOk K B) vs rs → RvAll K B vs rs
  | _, _, .nil => .nil
  | _, _, .cons h a => .cons h (RvAll.ofPair a)
theorem run_D {pins : List (Addr × Obj)} {σ : Slots} {B H : Hp} {s : Shared} {k : Nat} {f : Addr} {fd : FuncData} {ps : List Str} {pd : Prom} {ar : Args} {us : List Value} {vs : List V} {rs : List Rv} (F : FnD X.prog X.w X.K X.mg X.base k f fd ps pd) (hr : Room k X.A) (hg : X.A.guards = some [])
    (hb : BindsTo s fd ar (ps.zip us)) (I : Inv X pins σ H s) (ok : Ok X.K B H M) (env : EnvOk X.K B σ ρ) (tk : Takes X (PostX X.K B H M Ξ)) (r : Vals vs us) (ra : RvAll X.K B vs rs) (h : pd rs M Φ (fun x M' => Ξ x ρ M')) :
    codeAny (model X.prog X.w) X.A (.call (.ref f) ar) (fun r s' => match r with | .ok (.ret u) => EP X pins σ (PostE X.K B H M Φ) u s' | .ok _ => False | .error e => X.xe e s') s := by
  have hE : ∀ cls d H', PostF X.K B H M (fun x M' => Ξ x ρ M') cls d H' → PostX X.K B H M Ξ cls d σ H' := fun cls d H' ⟨B', M', x, o, g, v, q⟩ => ⟨B', M', ρ, x, o, g, env_mono g.ex env, v, q⟩
  refine codeAny_mono (F.run X.A X.stack s H ar us vs (PostE X.K B H M Φ) (fun cls d H' => PostX X.K B H M Ξ cls d σ H') hr hg I.env0 hb r ⟨B, M, rs, Φ, _, ok, ra, h, fun _ _ q => q, hE⟩) fun res s' hq => ?_
  cases res with
  | error e => exact tk e s' (XE.of_call I (fun cls d H' q => q) hq)
  | ok fl =>
    cases fl with
    | ret u => exact I.after hq
    | next => exact hq.elim
    | brk => exact hq.elim
    | cont => exact hq.elim
theorem ge_call {x : Str} {k : Nat} {ps : List Str} {ord : List (List Str)} {pd : Prom} {e : Expr} {es : List Expr} {p pos : Pos} (Df : Def X x k ps ord pd) (hr : Room k X.A) (hgu : X.A.guards = some []) (hg : Gl X x)
    (he : starEach (e :: es) X.env = (false, eval e X.env) :: starEach es X.env) (hpl : (backTo pos (starEach es X.env)).any (·.1) = false)
    (h : GA X (e :: es) ρ M (fun rs M1 => pd rs M1 Φ (fun x M2 => Ξ x ρ M2)) Ξ) : GE X (.Call (.Name x p) (e :: es) [] pos) ρ M Φ Ξ := fun B H σ ok env tk => by
  obtain ⟨⟨f, fd, F, hm, hk, hb, _⟩, hdb⟩ := Df
  intro pins s I
  refine wpAny_Call_Name_kw (ld_glob I hg hm ?_ hdb)
  refine PySem.W.callWith_K (h₀ := X.base) I.ok.mod.kin hk (thn (args h ok env tk (Q := fun vs H1 => ∃ B1 M1 rs, Ok X.K B1 H1 M1 ∧ Fr B H M B1 H1 M1 ∧ RvAll X.K B1 vs rs ∧ pd rs M1 Φ (fun x M2 => Ξ x ρ M2)) (fun vs H1 B1 M1 rs o1 f1 q1 k => ⟨B1, M1, rs, o1, f1, q1, k⟩) pos pins s I)
    fun us s1 ⟨vs, H1, I1, r, B1, M1, rs, o1, f1, q1, q⟩ => ⟨I1.kIn, ?_⟩) he hpl
  have hl : us.length = ps.length := by rw [← r.length, q1.length]; exact F.len _ _ _ _ q
  refine wpAny_call (codeAny_mono (run_D F hr hgu (.of_eq (hb us hl)) I1 o1 (env_mono f1.ex env) (tk_after tk f1) r q1 q) fun res s' hq => ?_)
  cases res with
  | error e => exact hq
  | ok fl =>
    cases fl with
    | ret u => obtain ⟨v, H', I', rv, z⟩ := hq; exact ⟨v, H', I', rv, postE_after f1 z⟩
    | next => exact hq.elim
    | brk => exact hq.elim
    | cont => exact hq.elim
/-- keywords' values, from the left -/
def kS (X : Cx) (kws : List Keyword) : TA := fun σ H Q => ∀ (pos : Pos) (pins : List (Addr × Obj)) (s : Shared), Inv X pins σ H s → wpAny (model X.prog X.w) X.A (evalAll ((backToKw pos (keywordEach kws X.env)).map (·.2))) (AP X pins σ Q) X.xe s
def GK (X : Cx) (kws : List Keyword) (ρ : List Rv) (M : Mem) (Ψ : List Rv → Mem → Prop) (Ξ : Xi) : Prop :=
  ∀ B H σ, Ok X.K B H M → EnvOk X.K B σ ρ → Takes X (PostX X.K B H M Ξ) → kS X kws σ H (PostA X.K B H M Ψ)
theorem gk_nil {Ψ : List Rv → Mem → Prop} (h : Ψ [] M) : GK X [] ρ M Ψ Ξ := fun B H σ ok env tk pos pins s I => pk_nil.run pos pins s σ H _ I ⟨B, M, [], ok, .refl, .nil, h⟩
theorem gk_cons {nm : Option Str} {e : Expr} {kpos : Pos} {kws : List Keyword} {Ψ : List Rv → Mem → Prop} (h : GE X e ρ M (fun r M1 => GK X kws ρ M1 (fun rs M2 => Ψ (r :: rs) M2) Ξ) Ξ) : GK X (⟨nm, e, kpos⟩ :: kws) ρ M Ψ Ξ :=
  fun B H σ ok env tk pos pins s I => (pk_cons (pe_S (e := e)) (⟨fun pos pins s σ H Q I h => h pos pins s I⟩ : PK X kws (kS X kws))).run pos pins s σ H _ I
    (one h ok env tk fun v H1 B1 M1 r o1 f1 q1 ha pos pins s I => thn (ha B1 H1 σ o1 (env_mono f1.ex env) (tk_after tk f1) pos pins s I) fun us s' ⟨vs, H2, I2, rv, B2, M2, rs, o2, f2, q2, k⟩ =>
      ⟨vs, H2, I2, rv, B2, M2, r :: rs, o2, f1.trans f2, .cons (rv_mono f2.ex q1) q2, k⟩)
/-- f(k = v, ..), keywords alone -/
theorem ge_callK {x : Str} {k : Nat} {ps ks : List Str} {ord : List (List Str)} {pd : Prom} {kws : List Keyword} {p pos : Pos} (Df : Def X x k ps ord pd) (hr : Room k X.A) (hgu : X.A.guards = some []) (hg : Gl X x) (hks : (backToKw pos (keywordEach kws X.env)).filterMap (·.1) = ks) (ho : ks ∈ ord)
    (hall : (backToKw pos (keywordEach kws X.env)).all (·.1.isSome) = true) (hpl : ((backTo pos (starEach [] X.env)).any (·.1) || (backToKw pos (keywordEach kws X.env)).any (·.1.isNone)) = false)
    (h : GK X kws ρ M (fun rs M1 => rs.length = ks.length ∧ pd (pick ks ps rs) M1 Φ (fun x M2 => Ξ x ρ M2)) Ξ) : GE X (.Call (.Name x p) [] kws pos) ρ M Φ Ξ := fun B H σ ok env tk => by
  obtain ⟨⟨f, fd, F, hm, hk, _, hb⟩, hdb⟩ := Df
  intro pins s I
  refine wpAny_Call_Name_kw (ld_glob I hg hm ?_ hdb)
  refine PySem.W.callWith_KW0 (h₀ := X.base) I.ok.mod.kin hk hall (thn (h B H σ ok env tk pos pins s I) fun us s1 ⟨vs, H1, I1, r, B1, M1, rs, o1, f1, q1, el, q⟩ => ⟨I1.kIn, ?_⟩) hpl
  rw [hks]
  have e1 : us.length = ks.length := by rw [← r.length, q1.length, el]
  show wpAny _ _ (call (.ref f) ([] ++ []) (ks.zip us)) _ _ _
  refine wpAny_call (codeAny_mono (run_D (us := pick ks ps us) (vs := pick ks ps vs) F hr hgu (.of_eq (hb ks ho us e1)) I1 o1 (env_mono f1.ex env) (tk_after tk f1) (pick_rel r ps) (.ofPair (pick_rel q1.pair ps)) q) fun res s' hq => ?_)
  cases res with
  | error e => exact hq
  | ok fl =>
    cases fl with
    | ret u => obtain ⟨v, H', I', rv, z⟩ := hq; exact ⟨v, H', I', rv, postE_after f1 z⟩
    | next => exact hq.elim
    | brk => exact hq.elim
    | cont => exact hq.elim
end
end Dl

set_option Elab.async false
set_option linter.all false
set_option maxRecDepth 100000
set_option maxHeartbeats 4000000
namespace Dl
open PySem PySem.Spec PyProof.Rows L2
section
variable {X : Cx} {ρ : List Rv} {M : Mem} {Φ : Pst} {Ξ : Xi} {D : DE}

/-! ## items, slices -/
/-- the kind is known ahead: a list, a tuple, a list that may change -/
theorem ge_ixL {a b : Expr} {pos : Pos} (hp : PlainIx b) (ha : GE X a ρ M (fun x M1 => GE X b ρ M1 (fun y M2 => ∃ ds i d, x = .d (.list ds) ∧ y = .d (.int i) ∧ atI ds i = some d ∧ Φ (.d d) M2) Ξ) Ξ) : GE X (.Subscript a b pos) ρ M Φ Ξ := fun B H σ ok env tk =>
  eS_of (pe_ix ix_list pe_S pe_S hp) (one ha ok env tk fun v H1 B1 M1 r o1 f1 q1 hb => one hb o1 (env_mono f1.ex env) (tk_after tk f1) fun w H2 B2 M2 r2 o2 f2 q2 ⟨ds, i, d, e1, e2, e3, k⟩ => by
    subst e1 e2
    cases q1 with
    | d q1 => cases q1 with
      | lst hs ha =>
        rename_i p xs
        obtain ⟨j, hj⟩ : ∃ j, ixN ds.length i = some j ∧ ds[j]? = some d := by
          unfold atI at e3
          exact Option.bind_eq_some_iff.mp e3
        obtain ⟨x, h1, h2⟩ := DpAll.get j d ha hj.2
        refine ⟨p, xs, i, x, rfl, int_of q2, o2.ext.seq (f2.ex.seq hs), ?_, B2, M2, .d d, o2, f1.trans f2, .d (dp_mono f2.ex _ h2), k⟩
        unfold atI
        rw [DpAll.len ha, hj.1]
        exact h1)
theorem ge_ixT {a b : Expr} {pos : Pos} (hp : PlainIx b) (ha : GE X a ρ M (fun x M1 => GE X b ρ M1 (fun y M2 => ∃ ds i d, x = .d (.tuple ds) ∧ y = .d (.int i) ∧ atI ds i = some d ∧ Φ (.d d) M2) Ξ) Ξ) : GE X (.Subscript a b pos) ρ M Φ Ξ := fun B H σ ok env tk =>
  eS_of (pe_ix ix_tup pe_S pe_S hp) (one ha ok env tk fun v H1 B1 M1 r o1 f1 q1 hb => one hb o1 (env_mono f1.ex env) (tk_after tk f1) fun w H2 B2 M2 r2 o2 f2 q2 ⟨ds, i, d, e1, e2, e3, k⟩ => by
    subst e1 e2
    cases q1 with
    | d q1 => cases q1 with
      | tup hs ha =>
        rename_i p xs
        obtain ⟨j, hj⟩ : ∃ j, ixN ds.length i = some j ∧ ds[j]? = some d := by
          unfold atI at e3
          exact Option.bind_eq_some_iff.mp e3
        obtain ⟨x, h1, h2⟩ := DpAll.get j d ha hj.2
        refine ⟨p, xs, i, x, rfl, int_of q2, sq_mono o2.ext (sq_mono f2.ex hs), ?_, B2, M2, .d d, o2, f1.trans f2, .d (dp_mono f2.ex _ h2), k⟩
        unfold atI
        rw [DpAll.len ha, hj.1]
        exact h1)
/-- a tuple that holds lists that may change -/
theorem ge_ixU {a b : Expr} {pos : Pos} (hp : PlainIx b) (ha : GE X a ρ M (fun x M1 => GE X b ρ M1 (fun y M2 => ∃ rs i r, x = .tup rs ∧ y = .d (.int i) ∧ atI rs i = some r ∧ Φ r M2) Ξ) Ξ) : GE X (.Subscript a b pos) ρ M Φ Ξ := fun B H σ ok env tk =>
  eS_of (pe_ix ix_tup pe_S pe_S hp) (one ha ok env tk fun v H1 B1 M1 r o1 f1 q1 hb => one hb o1 (env_mono f1.ex env) (tk_after tk f1) fun w H2 B2 M2 r2 o2 f2 q2 ⟨ds, i, d, e1, e2, e3, k⟩ => by
    subst e1 e2
    cases q1 with
    | tup hs ha =>
        rename_i p xs
        obtain ⟨j, hj⟩ : ∃ j, ixN ds.length i = some j ∧ ds[j]? = some d := by
          unfold atI at e3
          exact Option.bind_eq_some_iff.mp e3
        obtain ⟨x, h1, h2⟩ := RvAll.get j d ha hj.2
        refine ⟨p, xs, i, x, rfl, int_of q2, sq_mono o2.ext (sq_mono f2.ex hs), ?_, B2, M2, d, o2, f1.trans f2, rv_mono f2.ex h2, k⟩
        unfold atI
        rw [ha.length, hj.1]
        exact h1)
/-- an item of a list that may change -/
theorem ge_ixC {a b : Expr} {pos : Pos} (hp : PlainIx b) (ha : GE X a ρ M (fun x M1 => GE X b ρ M1 (fun y M2 => ∃ (p : Addr) (P : List Rv → Prop) (i : Int), x = .cell p ∧ (p, P) ∈ M2 ∧ y = .d (.int i) ∧ (∀ rs, P rs → ∃ r, atI rs i = some r ∧ Φ r M2)) Ξ) Ξ) : GE X (.Subscript a b pos) ρ M Φ Ξ := fun B H σ ok env tk =>
  eS_of (pe_ix ix_list pe_S pe_S hp) (one ha ok env tk fun v H1 B1 M1 r o1 f1 q1 hb => one hb o1 (env_mono f1.ex env) (tk_after tk f1) fun w H2 B2 M2 r2 o2 f2 q2 ⟨p, P, i, e1, hm, e2, k⟩ => by
    subst e1 e2
    cases q1
    obtain ⟨_, xs, rs, hH, hx, hP⟩ := o2.mem _ hm
    obtain ⟨r, e3, k⟩ := k rs hP
    obtain ⟨j, hj⟩ : ∃ j, ixN rs.length i = some j ∧ rs[j]? = some r := by
      unfold atI at e3
      exact Option.bind_eq_some_iff.mp e3
    obtain ⟨x, h1, h2⟩ := RvAll.get j r hx hj.2
    refine ⟨p, xs, i, x, rfl, int_of q2, .of hH, ?_, B2, M2, r, o2, f1.trans f2, h2, k⟩
    unfold atI
    rw [hx.length, hj.1]
    exact h1)
def pS (X : Cx) (e : Option Expr) : TO := fun σ H Q => ∀ (pins : List (Addr × Obj)) (s : Shared), Inv X pins σ H s → wpAny (model X.prog X.w) X.A (evalPart e X.env) (fun u s' => ∃ o H', Inv X pins σ H' s' ∧ IsPart u o ∧ Q o H') X.xe s
theorem po_S {e : Option Expr} : PO X e (pS X e) := ⟨fun pins s _ _ _ I h => h pins s I⟩
theorem pS_of {e : Option Expr} {t : TO} (h : PO X e t) {σ : Slots} {H : Hp} {Q : Option Int → Hp → Prop} (q : t σ H Q) : pS X e σ H Q := fun pins s I => h.run pins s σ H Q I q
theorem pS_mono {e : Option Expr} {σ : Slots} {H : Hp} {Q Q' : Option Int → Hp → Prop} (h : pS X e σ H Q) (k : ∀ v H', Q v H' → Q' v H') : pS X e σ H Q' := fun pins s I =>
  thn (h pins s I) fun u s' ⟨o, H', I', r, q⟩ => ⟨o, H', I', r, k _ _ q⟩
def GO (X : Cx) (e : Option Expr) (ρ : List Rv) (M : Mem) (Ψ : Option Int → Mem → Prop) (Ξ : Xi) : Prop :=
  ∀ B H σ, Ok X.K B H M → EnvOk X.K B σ ρ → Takes X (PostX X.K B H M Ξ) → pS X e σ H fun o H' => ∃ B' M', Ok X.K B' H' M' ∧ Fr B H M B' H' M' ∧ Ψ o M'
theorem go_none {Ψ : Option Int → Mem → Prop} (h : Ψ none M) : GO X none ρ M Ψ Ξ := fun B H σ ok env tk => pS_of po_none ⟨B, M, ok, .refl, h⟩
theorem go_some {e : Expr} {Ψ : Option Int → Mem → Prop} (h : GE X e ρ M (fun r M1 => ∃ i : Int, r = .d (.int i) ∧ Ψ (some i) M1) Ξ) : GO X (some e) ρ M Ψ Ξ := fun B H σ ok env tk =>
  pS_of (po_some pe_S) (one h ok env tk fun v H1 B1 M1 r o1 f1 q1 ⟨i, e, k⟩ => by
    subst e
    exact ⟨i, int_of q1, B1, M1, o1, f1, k⟩)
theorem cut_dp {K : Frg} {B : Hp} {xs : List V} {ds : List PyData} (h : DpAll K B xs ds) (a n : Nat) : DpAll K B ((xs.drop a).take n) ((ds.drop a).take n) := by
  have hd : ∀ (a : Nat) {xs : List V} {ds : List PyData}, DpAll K B xs ds → DpAll K B (xs.drop a) (ds.drop a) := by
    intro a
    induction a with
    | zero => intro xs ds h; exact h
    | succ a ih =>
      intro xs ds h
      cases h with
      | nil => exact .nil
      | cons _ t => exact ih t
  have ht : ∀ (n : Nat) {xs : List V} {ds : List PyData}, DpAll K B xs ds → DpAll K B (xs.take n) (ds.take n) := by
    intro n
    induction n with
    | zero => intro xs ds h; exact .nil
    | succ n ih =>
      intro xs ds h
      cases h with
      | nil => exact .nil
      | cons h t => exact .cons h (ih t)
  exact ht n (hd a h)
/-- the slice lo .. hi of a list -/
def cutD {α : Type} (xs : List α) (lo hi : Option Int) : List α := (xs.drop (HT.sIx xs.length 0 lo)).take (HT.sIx xs.length xs.length hi - HT.sIx xs.length 0 lo)
theorem ge_slice {e : Expr} {lo hi : Option Expr} {pos p2 : Pos} (h : GE X e ρ M (fun x M1 => GO X lo ρ M1 (fun l M2 => GO X hi ρ M2 (fun u M3 => ∃ ds, x = .d (.list ds) ∧ Φ (.d (.list (cutD ds l u))) M3) Ξ) Ξ) Ξ) : GE X (.Subscript e (.Slice lo hi none p2) pos) ρ M Φ Ξ := fun B H σ ok env tk =>
  eS_of (pe_slice sl_list pe_S po_S po_S) (one h ok env tk fun v H1 B1 M1 r o1 f1 q1 hb => pS_mono (hb B1 H1 σ o1 (env_mono f1.ex env) (tk_after tk f1)) fun l H2 ⟨B2, M2, o2, f2, hc⟩ =>
    pS_mono (hc B2 H2 σ o2 (env_mono (f1.trans f2).ex env) (tk_after tk (f1.trans f2))) fun u H3 ⟨B3, M3, o3, f3, ds, e, k⟩ => by
      subst e
      cases q1 with
      | d q1 => cases q1 with
        | lst hs ha =>
          rename_i a xs
          have f23 := f2.trans f3
          refine ⟨a, xs, rfl, o3.ext.seq (f23.ex.seq hs), fun p hp => postE_after (f1.trans f23) (post_frz o3 hp (.d (.lst (.of upd_same) ?_)) k)⟩
          refine dpAll_mono (f23.ex.trans (same_new (sub_none o3.ext hp))) _ ?_
          have z := cut_dp ha (HT.sIx xs.length 0 l) (HT.sIx xs.length xs.length u - HT.sIx xs.length 0 l)
          unfold cutV cutD
          rw [DpAll.len ha] at z ⊢
          exact z)
/-- a slice of a list that may change: a new list that won't -/
theorem ge_sliceC {e : Expr} {lo hi : Option Expr} {pos p2 : Pos} (h : GE X e ρ M (fun x M1 => GO X lo ρ M1 (fun l M2 => GO X hi ρ M2 (fun u M3 => ∃ (p : Addr) (P : List Rv → Prop), x = .cell p ∧ (p, P) ∈ M3 ∧ ∀ rs, P rs → ∃ ds : List PyData, rs = ds.map Rv.d ∧ Φ (.d (.list (cutD ds l u))) M3) Ξ) Ξ) Ξ) : GE X (.Subscript e (.Slice lo hi none p2) pos) ρ M Φ Ξ := fun B H σ ok env tk =>
  eS_of (pe_slice sl_list pe_S po_S po_S) (one h ok env tk fun v H1 B1 M1 r o1 f1 q1 hb => pS_mono (hb B1 H1 σ o1 (env_mono f1.ex env) (tk_after tk f1)) fun l H2 ⟨B2, M2, o2, f2, hc⟩ =>
    pS_mono (hc B2 H2 σ o2 (env_mono (f1.trans f2).ex env) (tk_after tk (f1.trans f2))) fun u H3 ⟨B3, M3, o3, f3, p, P, e, hm, k⟩ => by
      subst e
      cases q1
      obtain ⟨_, xs, rs, hH, hx, hP⟩ := o3.mem _ hm
      obtain ⟨ds, e, k⟩ := k rs hP
      subst e
      have ha := hx.data
      refine ⟨p, xs, rfl, .of hH, fun q hq => postE_after (f1.trans (f2.trans f3)) (post_frz o3 hq (.d (.lst (.of upd_same) ?_)) k)⟩
      refine dpAll_mono (same_new (sub_none o3.ext hq)) _ ?_
      have z := cut_dp ha (HT.sIx xs.length 0 l) (HT.sIx xs.length xs.length u - HT.sIx xs.length 0 l)
      unfold cutV cutD
      rw [DpAll.len ha] at z ⊢
      exact z)

/-! ## lists that change -/
theorem ge_append {o e : Expr} {apos cpos : Pos} (h1 : attributeBase o "append" X.env (eval o X.env) = eval o X.env)
    (h2 : ((backTo cpos (starEach [e] X.env)).all (!·.1) && (backToKw cpos (keywordEach [] X.env)).all (·.1.isSome) && decide (([e] : List Expr).length + ([] : List Keyword).length + (if ([] : List Keyword).isEmpty = true then 0 else 1) < 30)) = true)
    (h3 : (apos.endLine == cpos.line) = true) (h4 : starEach [e] X.env = (false, eval e X.env) :: starEach [] X.env) (h5 : (backTo cpos (starEach [] X.env)).any (·.1) = false)
    (h : GE X o ρ M (fun x M1 => ∃ p P, x = .cell p ∧ (p, P) ∈ M1 ∧ GE X e ρ M1 (fun r M2 => ∃ rs Ma Mb, M2 = Ma ++ (p, Is rs) :: Mb ∧ rs.length < sizeLine ∧ Φ (.d .none) (Ma ++ (p, Is (rs ++ [r])) :: Mb)) Ξ) Ξ) :
    GE X (.Call (.Attribute o "append" apos) [e] [] cpos) ρ M Φ Ξ := fun B H σ ok env tk =>
  eS_of (pe_bm PySem.F.plainAttrs_list PySem.F.slot_list_append PySem.F.type_list_append mt_append pe_S (pa_cons pe_S pa_nil h4) h1 h2 h3 h4 h5)
    (one h ok env tk fun v H1 B1 M1 x o1 f1 q1 ⟨p, P, e1, hm, he⟩ => by
      subst e1
      cases q1
      obtain ⟨_, xs, _, hH, _, _⟩ := o1.mem _ hm
      refine ⟨.inl ⟨rfl, xs, .of hH⟩, ?_⟩
      refine one he o1 (env_mono f1.ex env) (tk_after tk f1) fun w H2 B2 M2 r o2 f2 q2 ⟨rs, Ma, Mb, e2, hl, k⟩ => ?_
      subst e2
      obtain ⟨_, ys, rs', hH2, hx, hP⟩ := o2.mem (p, Is rs) (by simp)
      have e3 : rs' = rs := hP
      subst e3
      refine ⟨p, ys, w, rfl, rfl, hH2, by rw [hx.length]; exact hl, ?_⟩
      have z := ok_mut (P' := Is (rs' ++ [r])) (rs := rs' ++ [r]) o2 (RvAll.app hx (.cons q2 .nil)) rfl
      exact ⟨B2, _, .d .none, z.1, (f1.trans f2).trans z.2, .d .non, k⟩)
/-- xs[i] = e -/
theorem gs_setix {o i e : Expr} {p1 pos : Pos} (h1 : swapsWithSole [.Subscript o i p1] e pos.line X.env = pure false) (h2 : swappedStores [.Subscript o i p1] e X.env = pure none) (h3 : (assignEach [.Subscript o i p1] X.env).map (·.2) = [assign (.Subscript o i p1) X.env])
    (h4 : ∀ v, assign (.Subscript o i p1) X.env v = (do let ov ← holding [v] (eval o X.env); let iv ← holding [v, ov] (eval i X.env); standAt p1; holding [v, ov, iv] (setItem ov iv v); release [v, ov, iv] []))
    (h : GE X e ρ M (fun r M1 => GE X o ρ M1 (fun x M2 => GE X i ρ M2 (fun y M3 => ∃ p rs Ma Mb k j, x = .cell p ∧ y = .d (.int k) ∧ M3 = Ma ++ (p, Is rs) :: Mb ∧ ixN rs.length k = some j ∧ D.nx ρ (Ma ++ (p, Is (rs.set j r)) :: Mb)) D.xx) D.xx) D.xx) :
    GS X (.Assign [.Subscript o i p1] e pos) ρ M D := fun B H σ ok env tk =>
  sS_of (ps_asg pe_S (pg_sub pe_S pe_S set_list h4) h1 h2 h3) (one h ok env tk fun v H1 B1 M1 r o1 f1 q1 ho => one ho o1 (env_mono f1.ex env) (tk_after tk f1) fun w H2 B2 M2 x o2 f2 q2 hi =>
    one hi o2 (env_mono (f1.trans f2).ex env) (tk_after tk (f1.trans f2)) fun u H3 B3 M3 y o3 f3 q3 ⟨p, rs, Ma, Mb, k, j, e1, e2, e3, hj, z⟩ => by
      subst e1 e2 e3
      cases q2
      obtain ⟨_, ys, rs', hH, hx, hP⟩ := o3.mem (p, Is rs) (by simp)
      have e4 : rs' = rs := hP
      subst e4
      refine ⟨p, ys, k, j, rfl, int_of q3, hH, by rw [hx.length]; exact hj, ?_⟩
      have set : ∀ (j : Nat) {vs : List V} {qs : List Rv}, RvAll X.K B3 vs qs → RvAll X.K B3 (vs.set j v) (qs.set j r) := by
        intro j
        induction j with
        | zero => intro vs qs h; cases h with
          | nil => exact .nil
          | cons _ t => exact .cons (rv_mono (f2.trans f3).ex q1) t
        | succ j ih => intro vs qs h; cases h with
          | nil => exact .nil
          | cons h t => exact .cons h (ih t)
      have z2 := ok_mut (P' := Is (rs'.set j r)) (rs := rs'.set j r) o3 (set j hx) rfl
      have f := ((f1.trans f2).trans f3).trans z2.2
      exact ⟨B3, _, ρ, z2.1, f, env_mono f.ex env, z⟩)
/-- the content of a list that may change is looked at -/
theorem gss_open {st : List Stmt} {Ma Mb : Mem} {c : Addr} {P : List Rv → Prop} (h : ∀ rs, P rs → GSs X st ρ (Ma ++ (c, Is rs) :: Mb) D) : GSs X st ρ (Ma ++ (c, P) :: Mb) D := fun B H σ ok env tk => by
  obtain ⟨b, xs, rs, hH, hx, hP⟩ := ok.mem (c, P) (by simp)
  have keys : ((Ma ++ (c, Is rs) :: Mb).map (·.1)) = ((Ma ++ (c, P) :: Mb).map (·.1)) := by simp
  have sub : ∀ q ∈ Ma ++ (c, Is rs) :: Mb, q = (c, Is rs) ∨ q ∈ Ma ++ (c, P) :: Mb := fun q hq => by
    rcases List.mem_append.mp hq with h | h
    · exact .inr (by simp [h])
    · rcases List.mem_cons.mp h with h | h
      · exact .inl h
      · exact .inr (by simp [h])
  have o1 : Ok X.K B H (Ma ++ (c, Is rs) :: Mb) := ⟨ok.ext, fun q hq => by
    rcases sub q hq with rfl | h
    · exact ⟨b, xs, rs, hH, hx, rfl⟩
    · exact ok.mem q h, by rw [keys]; exact ok.nd⟩
  have f1 : Fr B H (Ma ++ (c, P) :: Mb) B H (Ma ++ (c, Is rs) :: Mb) := ⟨Same.refl _, fun _ _ h b _ => ⟨h, b⟩, fun q hq => by
    rcases sub q hq with rfl | h
    · exact .inl ⟨(c, P), by simp, rfl⟩
    · exact .inl ⟨q, h, rfl⟩, fun _ h => h⟩
  exact ssS_mono (h rs hP B H σ o1 env (tk_after tk f1)) (ends_after f1)
theorem ok_weak {K : Frg} {B H : Hp} {Ma Mb : Mem} {c : Addr} {P P' : List Rv → Prop} (hP : ∀ rs, P rs → P' rs) (ok : Ok K B H (Ma ++ (c, P) :: Mb)) : Ok K B H (Ma ++ (c, P') :: Mb) ∧ Fr B H (Ma ++ (c, P) :: Mb) B H (Ma ++ (c, P') :: Mb) := by
  have sub : ∀ q ∈ Ma ++ (c, P') :: Mb, q = (c, P') ∨ q ∈ Ma ++ (c, P) :: Mb := fun q hq => by
    rcases List.mem_append.mp hq with h | h
    · exact .inr (by simp [h])
    · rcases List.mem_cons.mp h with h | h
      · exact .inl h
      · exact .inr (by simp [h])
  refine ⟨⟨ok.ext, fun q hq => ?_, ?_⟩, ⟨Same.refl _, fun _ _ h b _ => ⟨h, b⟩, fun q hq => ?_, fun _ h => h⟩⟩
  · rcases sub q hq with rfl | h
    · obtain ⟨b, xs, rs, hH, hx, z⟩ := ok.mem (c, P) (by simp)
      exact ⟨b, xs, rs, hH, hx, hP rs z⟩
    · exact ok.mem q h
  · have z := ok.nd
    simpa using z
  · rcases sub q hq with rfl | h
    · exact .inl ⟨(c, P), by simp, rfl⟩
    · exact .inl ⟨q, h, rfl⟩
/-- .. is forgotten again, behind a value -/
theorem ge_close {e : Expr} {c : Addr} {P : List Rv → Prop} (h : GE X e ρ M (fun r M1 => ∃ rs Ma Mb, M1 = Ma ++ (c, Is rs) :: Mb ∧ P rs ∧ Φ r (Ma ++ (c, P) :: Mb)) Ξ) : GE X e ρ M Φ Ξ := fun B H σ ok env tk =>
  one h ok env tk fun v H1 B1 M1 r o1 f1 q1 ⟨rs, Ma, Mb, e, hP, k⟩ => by
    subst e
    have z := ok_weak (P' := P) (fun x (hx : x = rs) => by rw [hx]; exact hP) o1
    exact ⟨B1, _, r, z.1, f1.trans z.2, q1, k⟩
theorem gss_close {st : List Stmt} {c : Addr} {rs : List Rv} {Ma Mb : Mem} (P : List Rv → Prop) (hP : P rs) (h : GSs X st ρ (Ma ++ (c, P) :: Mb) D) : GSs X st ρ (Ma ++ (c, Is rs) :: Mb) D := fun B H σ ok env tk => by
  have z := ok_weak (P' := P) (fun x (hx : x = rs) => by rw [hx]; exact hP) ok
  exact ssS_mono (h B H σ z.1 env (tk_after tk z.2)) (ends_after z.2)

/-! ## built-ins by values -/
theorem ge_ty {x : Str} {n : String} {pos : Pos} (hb : Bi X x (.type n)) (hg : Gl X x) (h : Φ (.raw (.ty n)) M) : GE X (.Name x pos) ρ M Φ Ξ := fun B H σ ok env tk =>
  eS_of (pe_bltn (v := .ty n) hg hb.m hb.b rfl hb.n hb.d) (post_same ok (.raw _) h)
theorem gc_lenL {ds : List PyData} (h : Φ (.d (.int ds.length)) M) : GC X (.builtin "len") [.d (.list ds)] M Φ := gc_mk call_len_seq fun B H vs ok a => by
  cases a with
  | cons q t => cases t; cases q with
    | d q => cases q with
      | lst hs ha => exact ⟨_, _, rfl, .inl (ok.ext.seq hs), by rw [DpAll.len ha]; exact post_same ok (.d (.int _)) h⟩
theorem gc_lenT {ds : List PyData} (h : Φ (.d (.int ds.length)) M) : GC X (.builtin "len") [.d (.tuple ds)] M Φ := gc_mk call_len_seq fun B H vs ok a => by
  cases a with
  | cons q t => cases t; cases q with
    | d q => cases q with
      | tup hs ha => exact ⟨_, _, rfl, .inr (sq_mono ok.ext hs), by rw [DpAll.len ha]; exact post_same ok (.d (.int _)) h⟩
theorem gc_lenC {p : Addr} {P : List Rv → Prop} (hm : (p, P) ∈ M) (h : ∀ rs, P rs → Φ (.d (.int rs.length)) M) : GC X (.builtin "len") [.cell p] M Φ := gc_mk call_len_seq fun B H vs ok a => by
  cases a with
  | cons q t =>
    cases t; cases q
    obtain ⟨_, xs, rs, hH, hx, hP⟩ := ok.mem _ hm
    exact ⟨_, _, rfl, .inl (.of hH), by rw [hx.length]; exact post_same ok (.d (.int _)) (h rs hP)⟩
theorem vals_int1 {K : Frg} {B : Hp} {vs : List V} {i : Int} (a : RvAll K B vs [.d (.int i)]) : vs = [.int i] := by
  cases a with | cons q t => cases t; rw [int_of q]
theorem vals_int2 {K : Frg} {B : Hp} {vs : List V} {i j : Int} (a : RvAll K B vs [.d (.int i), .d (.int j)]) : vs = [.int i, .int j] := by
  cases a with | cons q t => cases t with | cons q2 t => cases t; rw [int_of q, int_of q2]
theorem gc_abs {i : Int} (h : Φ (.d (.int (i.natAbs : Nat))) M) : GC X (.builtin "abs") [.d (.int i)] M Φ := gc_mk call_abs fun B H vs ok a => by
  rw [vals_int1 a]
  refine ⟨i, rfl, ?_⟩
  have e : (if i < 0 then -i else i) = (i.natAbs : Int) := by split <;> omega
  rw [e]
  exact post_same ok (.d (.int _)) h
theorem gc_max {i j : Int} (hc : X.calm = true) (h : Φ (.d (.int (max i j))) M) : GC X (.builtin "max") [.d (.int i), .d (.int j)] M Φ := gc_mk (call_max2 hc) fun B H vs ok a => by
  rw [vals_int2 a]
  refine ⟨i, j, rfl, ?_⟩
  have e : (if j > i then j else i) = max i j := by split <;> omega
  rw [e]
  exact post_same ok (.d (.int _)) h
theorem gc_min {i j : Int} (hc : X.calm = true) (h : Φ (.d (.int (min i j))) M) : GC X (.builtin "min") [.d (.int i), .d (.int j)] M Φ := gc_mk (call_min2 hc) fun B H vs ok a => by
  rw [vals_int2 a]
  refine ⟨i, j, rfl, ?_⟩
  have e : (if j < i then j else i) = min i j := by split <;> omega
  rw [e]
  exact post_same ok (.d (.int _)) h
theorem gc_int {i : Int} (h : Φ (.d (.int i)) M) : GC X (.type "int") [.d (.int i)] M Φ := gc_mk call_int1 fun B H vs ok a => .inl ⟨i, vals_int1 a, post_same ok (.d (.int _)) h⟩
theorem gc_intB {k : Bool} (h : Φ (.d (.int (if k = true then 1 else 0))) M) : GC X (.type "int") [.d (.bool k)] M Φ := gc_mk call_int1 fun B H vs ok a => .inr ⟨k, by cases a with | cons q t => cases t; rw [bool_of q], post_same ok (.d (.int _)) h⟩
theorem dp_ints {K : Frg} {B : Hp} : ∀ {vs : List V} (ns : List Int), DpAll K B vs (ns.map PyData.int) → vs = ns.map V.int
  | _, [], h => by cases h; rfl
  | _, n :: ns, h => by
    cases h with
    | cons h t => cases h; rw [dp_ints ns t]; rfl
theorem dp_bools {K : Frg} {B : Hp} : ∀ {vs : List V} (ns : List Bool), DpAll K B vs (ns.map PyData.bool) → vs = ns.map V.bl
  | _, [], h => by cases h; rfl
  | _, n :: ns, h => by
    cases h with
    | cons h t => cases h; rw [dp_bools ns t]; rfl
theorem gc_sum {ns : List Int} (hc : X.calm = true) (h : Φ (.d (.int ns.sum)) M) : GC X (.builtin "sum") [.d (.list (ns.map PyData.int))] M Φ := gc_mk (cr_sum hc) fun B H vs ok a => by
  cases a with
  | cons q t => cases t; cases q with
    | d q => cases q with
      | lst hs ha =>
        have e := dp_ints ns ha
        subst e
        exact ⟨_, ns, rfl, ok.ext.seq hs, post_same ok (.d (.int _)) h⟩
theorem gc_all {bs : List Bool} (hc : X.calm = true) (h : Φ (.d (.bool (bs.all id))) M) : GC X (.builtin "all") [.d (.list (bs.map PyData.bool))] M Φ := gc_mk (cr_all hc) fun B H vs ok a => by
  cases a with
  | cons q t => cases t; cases q with
    | d q => cases q with
      | lst hs ha =>
        have e := dp_bools bs ha
        subst e
        exact ⟨_, bs, rfl, ok.ext.seq hs, post_same ok (.d (.bl _)) h⟩
/-- list(xs), to be changed -/
theorem gc_listO {ds : List PyData} (h : ∀ p, Φ (.cell p) ((p, Is (ds.map Rv.d)) :: M)) : GC X (.type "list") [.d (.list ds)] M Φ := gc_mk call_list_of fun B H vs ok a => by
  cases a with
  | cons q t => cases t; cases q with
    | d q => cases q with
      | lst hs ha => exact ⟨_, _, rfl, .inl (ok.ext.seq hs), fun l hl => post_own (P := Is (ds.map Rv.d)) ok hl (RvAll.ofData ha) rfl (h l)⟩
theorem gc_list {ds : List PyData} (h : Φ (.d (.list ds)) M) : GC X (.type "list") [.d (.list ds)] M Φ := gc_mk call_list_of fun B H vs ok a => by
  cases a with
  | cons q t => cases t; cases q with
    | d q => cases q with
      | lst hs ha => exact ⟨_, _, rfl, .inl (ok.ext.seq hs), fun l hl => post_frz ok hl (.d (.lst (.of upd_same) (dpAll_mono (same_new (sub_none ok.ext hl)) _ ha))) h⟩
theorem gc_listT {ds : List PyData} (h : Φ (.d (.list ds)) M) : GC X (.type "list") [.d (.tuple ds)] M Φ := gc_mk call_list_of fun B H vs ok a => by
  cases a with
  | cons q t => cases t; cases q with
    | d q => cases q with
      | tup hs ha => exact ⟨_, _, rfl, .inr (sq_mono ok.ext hs), fun l hl => post_frz ok hl (.d (.lst (.of upd_same) (dpAll_mono (same_new (sub_none ok.ext hl)) _ ha))) h⟩
/-! isinstance -/
def tyN : PyData → String
  | .none => "NoneType" | .bool _ => "bool" | .int _ => "int" | .str _ => "str" | .list _ => "list" | .tuple _ => "tuple" | .dict _ => "dict"
theorem ty_of {K : Frg} {H : Hp} {v : V} : ∀ {d : PyData}, Dp K H v d → TyX K H v (.type (tyN d))
  | _, .non => .base .non
  | _, .bl b => .base (.bl b)
  | _, .int i => .base (.int i)
  | _, .str x => .base (.str x)
  | _, .lst (.inl (.inl h)) _ => .base (.lst h)
  | _, .lst (.inl (.inr ⟨_, h⟩)) _ => .base (.frz h)
  | _, .lst (.inr ⟨_, _, _, h, c, _⟩) _ => .kList h c
  | _, .tup (.inl (.inl h)) _ => .base (.tup h)
  | _, .tup (.inl (.inr ⟨_, h⟩)) _ => .fTuple h
  | _, .tup (.inr ⟨_, _, _, h, c, _⟩) _ => .kTuple h c
theorem gc_isi {d : PyData} {T : String} {b : Bool} (hk : kitB (tyN d) T = some b) (h : Φ (.d (.bool b)) M) : GC X (.builtin "isinstance") [.d d, .raw (.ty T)] M Φ := gc_mk call_isi fun B H vs ok a => by
  cases a with
  | cons q t => cases t with
    | cons q2 t =>
      cases t; cases q2
      cases q with
      | d q => exact ⟨_, _, _, _, b, rfl, .ty T, ty_of (dp_mono ok.ext _ q), kit_ty hk, post_same ok (.d (.bl b)) h⟩
/-! repr -/
mutual
theorem noDict {K : Frg} {H : Hp} : ∀ {v : V} (d : PyData), Dp K H v d → d.hasDict = false
  | _, .none, _ => by simp [PyData.hasDict]
  | _, .bool _, _ => by simp [PyData.hasDict]
  | _, .int _, _ => by simp [PyData.hasDict]
  | _, .str _, _ => by simp [PyData.hasDict]
  | _, .list ds, .lst _ a => by simp only [PyData.hasDict]; exact noDictAll ds a
  | _, .tuple ds, .tup _ a => by simp only [PyData.hasDict]; exact noDictAll ds a
theorem noDictAll {K : Frg} {H : Hp} : ∀ {vs : List V} (ds : List PyData), DpAll K H vs ds → PyData.hasDictAll ds = false
  | _, [], _ => by simp [PyData.hasDictAll]
  | _, d :: ds, .cons h t => by simp only [PyData.hasDictAll, noDict d h, noDictAll ds t, Bool.or_self]
end
/-- repr of a list, a tuple -/
def rRepr (K : Frg) (d : PyData) : List V → Hp → VK → Prop := fun vs H Q => ∃ a, vs = [.ref a] ∧ Dp K H (.ref a) d ∧ Q (.str d.shown) H
theorem call_repr {d : PyData} (hg : X.A.guards = some []) (hs : d.showable = true) (hu : X.A.units + (d.depth + 1) < cLine) (hz : d.shown.length ≤ sizeLine) : CallR X (.builtin "repr") (rRepr X.K d) := by
  intro pins s σ H vs us Q I r h
  obtain ⟨a, rfl, hd, q⟩ := h
  obtain ⟨u, rfl, ru⟩ := vals1 r
  cases ru
  obtain ⟨as, rd⟩ := Dp.reads I d (.ref a) (.ref a) hd rfl
  exact repr_of_reads' rd hs (PyData.noDict_hsm (noDict d hd)) hg hu (fun _ _ e => e) (fun h' u tk hk => ⟨.str d.shown, H, I.kept hk, ⟨_, rfl⟩, q⟩) hz
theorem gc_repr {d : PyData} (hd : (match d with | .list _ => true | .tuple _ => true | _ => false) = true) (hg : X.A.guards = some []) (hs : d.showable = true) (hu : X.A.units + (d.depth + 1) < cLine) (hz : d.shown.length ≤ sizeLine) (h : Φ (.d (.str d.shown)) M) :
    GC X (.builtin "repr") [.d d] M Φ := gc_mk (call_repr hg hs hu hz) fun B H vs ok a => by
  cases a with
  | cons q t =>
    cases t
    cases q with
    | d q =>
      have q' := dp_mono ok.ext _ q
      cases q with
      | lst _ _ => exact ⟨_, rfl, q', post_same ok (.d (.str _)) h⟩
      | tup _ _ => exact ⟨_, rfl, q', post_same ok (.d (.str _)) h⟩
      | non => cases hd
      | bl _ => cases hd
      | int _ => cases hd
      | str _ => cases hd
/-! powers, lists joined -/
def CPowW (i j : Int) : Prop := 0 ≤ j ∧ (Builtin.Int.intBits i : Int) * j ≤ 2 ^ 27
theorem op_powW : OpR X (binaryOp .Pow) (rI CPowW fun i j => .int (i ^ j.toNat)) := by
  intro pins s σ H x y v u Q I rx ry h
  obtain ⟨i, j, rfl, rfl, hc, q⟩ := h
  obtain ⟨t, rfl⟩ := rx
  obtain ⟨t', rfl⟩ := ry
  exact PyProof.Rows.pow_int hc.1 hc.2 ⟨.int _, H, I.tok _, ⟨_, rfl⟩, q⟩
theorem g2_pow {i : Int} {n : Nat} {r : Int} (hc : CPowW i n) (e : i ^ n = r) (h : Φ (.d (.int r)) M) : G2 X (binaryOp .Pow) (.d (.int i)) (.d (.int (n : Nat))) M Φ := g2_I op_powW (d := .int r) (fun K H => by rw [Int.toNat_natCast, e]; exact .int _) hc h
def rCatS (K : Frg) : R2 := fun x y H Q => ∃ l b xs zs, x = .ref l ∧ y = .ref b ∧ SqL K H l xs ∧ SqL K H b zs ∧ xs.length + zs.length ≤ sizeLine ∧ ∀ p, H p = none → Q (.ref p) (upd H p (.lst (xs ++ zs)))
theorem op_catS : OpR X (binaryOp .Add) (rCatS X.K) := by
  intro pins s σ H x y v u Q I rx ry h
  obtain ⟨l, b, xs, zs, rfl, rfl, hL, hB, hz, q⟩ := h
  cases rx
  cases ry
  obtain ⟨its, r1, ⟨⟨c1, d1, dt1, s1⟩, n1, e1, hc1, hd1, hq1⟩, _⟩ := I.list hL
  obtain ⟨its2, r2, ⟨⟨c2, d2, dt2, s2⟩, n2, e2, hc2, hd2, hq2⟩, _⟩ := I.list hB
  simp only at hc1 hd1 hq1 hc2 hd2 hq2
  subst hc1 hd1 hq1 hc2 hd2 hq2
  have ea : its.toArray ++ its2.toArray = (its ++ its2).toArray := by simp
  refine concat_meets ⟨_, e1, rfl⟩ ⟨_, e2, rfl⟩ noFill_list_add seq_list_add PySem.F.slot_list_add PySem.F.entry_list_add (PySem.F.args_list_add_2 _ _) (list_addW l b its.toArray its2.toArray n1 n2 none none s1 s2 (by rw [List.size_toArray, List.size_toArray, ← r1.length, ← r2.length]; exact hz)) ⟨e1, e2, ?_⟩
  rw [ea]
  exact ⟨.ref _, _, I.lnew (t' := s.toks) (r1.append r2) (by rw [List.length_append]; omega), rfl, q _ I.fresh⟩
theorem g2_cat {ds es : List PyData} (hz : ds.length + es.length ≤ sizeLine) (h : Φ (.d (.list (ds ++ es))) M) : G2 X (binaryOp .Add) (.d (.list ds)) (.d (.list es)) M Φ := g2_mk op_catS fun B H v w ok a b => by
  cases a with
  | d a => cases a with
    | lst ha da => cases b with
      | d b => cases b with
        | lst hb db =>
          refine ⟨_, _, _, _, rfl, rfl, ok.ext.seq ha, ok.ext.seq hb, by rw [DpAll.len da, DpAll.len db]; exact hz, fun p hp => post_frz ok hp (.d (.lst (.of upd_same) ?_)) h⟩
          exact dpAll_mono (same_new (sub_none ok.ext hp)) _ (DpAll.app da db)

/-! ## comprehensions -/
def wipeR (ρ : List Rv) : List Nat → List Rv
  | [] => ρ
  | v :: vs => (wipeR ρ vs).set v .any
theorem env_wipe {K : Frg} {B : Hp} {σ : Slots} {ρ : List Rv} (h : EnvOk K B σ ρ) : ∀ vs : List Nat, EnvOk K B (wipe σ vs) (wipeR ρ vs)
  | [] => h
  | v :: vs => env_set .none1 v (env_wipe h vs)
/-- tests of a comprehension -/
def GTs (X : Cx) (ifs : List Expr) (ρ : List Rv) (M : Mem) (Ψ : Bool → Mem → Prop) (Ξ : Xi) : Prop :=
  match ifs with
  | [] => Ψ true M
  | [c] => GT X c ρ M Ψ Ξ
  | _ => False
/-- in any block of the comprehension -/
def AllB (X : Cx) (scope : Scope) (P : Cx → Prop) : Prop := ∀ (s : Shared) (H : Hp) (C : Addr) (cl : List (Str × Addr)) (fp : List Addr), P (X.blk s H scope (compEnvC scope cl C X.env) fp)
/-- the turns of a comprehension: F is wanted of what is made -/
def CompD (X : Cx) (tg elt : Expr) (ifs : List Expr) (scope : Scope) (vs : List Nat) (ρ : List Rv) (F : List Rv → Mem → Prop) : List Rv → List Rv → Mem → Prop
  | [], acc, M => F acc M
  | r :: rs, acc, M => acc.length < sizeLine ∧ AllB X scope fun X1 => GG X1 tg r (wipeR ρ vs) M (fun ρ2 M2 => AllB X scope fun X2 => GTs X2 ifs ρ2 M2 (fun b M3 =>
        (b = true → AllB X scope fun X3 => GE X3 elt ρ2 M3 (fun y M4 => CompD X tg elt ifs scope vs ρ F rs (acc ++ [y]) M4) X0) ∧ (b = false → CompD X tg elt ifs scope vs ρ F rs acc M3)) X0) vs
structure At (B H : Hp) (M : Mem) (L : Addr) (xs : List V) : Prop where
  h : H L = some (.lst xs)
  b : B L = none
  m : ∀ p ∈ M, p.1 ≠ L
theorem At.step {B H B1 H1 : Hp} {M M1 : Mem} {L : Addr} {xs : List V} (a : At B H M L xs) (f : Fr B H M B1 H1 M1) : At B1 H1 M1 L xs :=
  ⟨(f.out L _ a.h a.b a.m).1, (f.out L _ a.h a.b a.m).2, fun p hp e => by
    rcases f.new p hp with ⟨q, hq, e2⟩ | e2
    · exact a.m q hq (e2.trans e)
    · rw [e, a.h] at e2; cases e2⟩
theorem At.set {K : Frg} {B H : Hp} {M : Mem} {L : Addr} {xs ys : List V} (a : At B H M L xs) (ok : Ok K B H M) : Ok K B (upd H L (.lst ys)) M ∧ At B (upd H L (.lst ys)) M L ys :=
  ⟨⟨fun x u e => by rw [upd_ne (ne_of_none e a.b)]; exact ok.ext x u e, fun q hq => by
    obtain ⟨h1, vs, rs, h2, h3, h4⟩ := ok.mem q hq
    exact ⟨h1, vs, rs, by rw [upd_ne (a.m q hq)]; exact h2, h3, h4⟩, ok.nd⟩, upd_same, a.b, a.m⟩
theorem fr_set {B H B1 H1 : Hp} {M M1 : Mem} {L : Addr} {o : HO} (f : Fr B H M B1 H1 M1) (hL : H L = none) : Fr B H M B1 (upd H1 L o) M1 :=
  ⟨f.ex, fun a u h b m => by
    have z := f.out a u h b m
    exact ⟨by rw [upd_ne (ne_of_none h hL)]; exact z.1, z.2⟩, f.new, fun a h => by
    by_cases e : a = L
    · subst e; exact hL
    · rw [upd_ne e] at h; exact f.grow a h⟩
theorem tk0 {B H : Hp} : Takes X (PostX X.K B H M X0) := takes0.imp fun _ _ _ _ ⟨_, _, _, _, _, _, _, _, z⟩ => z.elim
section
variable {tg elt iter : Expr} {ifs : List Expr} {scope : Scope} {own : List (Str × Nat)} {pos : Pos}
def gB (X : Cx) (scope : Scope) (tg : Expr) : TG := fun v σ H Q => AllB X scope fun X1 => gS X1 tg v σ H Q
def tsS (X : Cx) (ifs : List Expr) : TT := fun σ H Q => ∃ t, PTs X ifs t ∧ t σ H Q
def tB (X : Cx) (scope : Scope) (ifs : List Expr) : TT := fun σ H Q => AllB X scope fun X1 => tsS X1 ifs σ H Q
def eB (X : Cx) (scope : Scope) (e : Expr) : TE := fun σ H Q => AllB X scope fun X1 => eS X1 e σ H Q
theorem comp_turns (own : List (Str × Nat)) (hown : own ≠ []) {F : List Rv → Mem → Prop} {Q : VK} {σ : Slots} {B1 H1 : Hp} {M1 : Mem} {J : It} {items : List Rv} {L : Addr} (w : Walk J items.length (fun H => Same B1 H) (fun i H x H' => ∀ r, items[i]? = some r → Step X.K B1 r x H H'))
    (o1 : Ok X.K B1 H1 M1) (env : EnvOk X.K B1 σ ρ) (hL : H1 L = none) (h0 : CompD X tg elt ifs scope (own.map (·.2)) ρ F items [] M1)
    (hd : ∀ H' B' M' acc xs, Ok X.K B' H' M' → Fr B1 H1 M1 B' H' M' → At B' H' M' L xs → RvAll X.K B' xs acc → F acc M' → Q (.ref L) H') :
    ∃ W : Nat → Nat → Hp → Prop, (∃ m, W 0 m (upd H1 L (.lst []))) ∧ ∀ i m H, W i m H → (J.stop i H ∧ Q (.ref L) H) ∨ (J.go i H ∧ ∃ Nx : Hp → Prop, (∀ H', Nx H' → ∃ m', m' < m ∧ W (i + 1) m' H') ∧
      ∀ x H', J.yld i H x H' → gB X scope tg x (wipe σ (own.map (·.2))) H' fun σ2 H2 => wipe σ2 (own.map (·.2)) = wipe σ (own.map (·.2)) ∧ tB X scope ifs σ2 H2 fun b H3 =>
        if b = true then eB X scope elt σ2 H3 fun y H4 => ∃ acc, H4 L = some (.lst acc) ∧ acc.length < sizeLine ∧ Nx (upd H4 L (.lst (acc ++ [y]))) else Nx H3) := by
  have bL := sub_none o1.ext hL
  have mL : ∀ p ∈ M1, p.1 ≠ L := fun p hp e => by
    obtain ⟨_, _, _, h, _⟩ := o1.mem p hp
    rw [e, hL] at h; cases h
  refine lc_it w (Qd := fun H' => Q (.ref L) H') (fun i H' => ∃ B' M' acc xs, Ok X.K B' H' M' ∧ Fr B1 H1 M1 B' H' M' ∧ At B' H' M' L xs ∧ RvAll X.K B' xs acc ∧ CompD X tg elt ifs scope (own.map (·.2)) ρ F (items.drop i) acc M') ?_
    (fun i H' _ ⟨B', M', acc, xs, o, f, _⟩ => f.ex.trans o.ext) (fun i x H2 H3 hi ⟨B2, M2, acc, xs, o2, f2, a2, r2, c2⟩ y => ?_) (fun H' ⟨B', M', acc, xs, o, f, a, r, c⟩ => ?_)
  · refine ⟨B1, M1, [], [], ⟨fun x u e => by rw [upd_ne (ne_of_none e bL)]; exact o1.ext x u e, fun q hq => ?_, o1.nd⟩, fr_set .refl hL, ⟨upd_same, bL, mL⟩, .nil, h0⟩
    obtain ⟨h1, vs, rs, h2, h3, h4⟩ := o1.mem q hq
    exact ⟨h1, vs, rs, by rw [upd_ne (mL q hq)]; exact h2, h3, h4⟩
  · obtain ⟨r, hr⟩ : ∃ r, items[i]? = some r := ⟨items[i], by simp [hi]⟩
    obtain ⟨B3, o3, f3, q3⟩ := y r hr B2 M2 o2 f2.ex
    rw [List.drop_eq_getElem_cons hi, (List.getElem?_eq_some_iff.mp hr).2] at c2
    obtain ⟨hz, c2⟩ := c2
    have a3 := a2.step f3
    have f13 := f2.trans f3
    intro s H C cl fp
    refine gS_mono (c2 s H C cl fp B3 H3 (wipe σ (own.map (·.2))) x o3 (env_wipe (env_mono f13.ex env) _) q3) fun σ4 H4 ⟨hw, B4, M4, ρ4, o4, f4, e4, c4⟩ => ?_
    have ww : ∀ (vs : List Nat) (τ : Slots), wipe (wipe τ vs) vs = wipe τ vs := by
      intro vs τ
      have ix : ∀ (vs : List Nat) (τ : Slots) (j : Nat), (wipe τ vs)[j]? = if j ∈ vs ∧ j < τ.length then some none else τ[j]? := by
        intro vs
        induction vs with
        | nil => intro τ j; simp [wipe]
        | cons a vs ih =>
          intro τ j
          show ((wipe τ vs).set a none)[j]? = _
          rw [List.getElem?_set, ih, wipe_length]
          by_cases e : a = j
          · subst e
            by_cases hl : a < τ.length
            · simp [hl]
            · simp [hl, List.getElem?_eq_none (Nat.le_of_not_lt hl)]
          · have e' : ¬ j = a := fun z => e z.symm
            simp [e, e']
      refine List.ext_getElem? fun j => ?_
      rw [ix vs (wipe τ vs) j, ix vs τ j, wipe_length]
      split <;> rfl
    refine ⟨?_, ?_⟩
    · cases own with
      | nil => exact absurd rfl hown
      | cons p own => rw [hw (by simp), ww]
    · intro s H C cl fp
      have a4 := a3.step f4
      have f14 := f13.trans f4
      have k := c4 s H C cl fp
      have fin : ∀ b H5, PostT X.K B4 H4 M4 (fun b M3 => (b = true → AllB X scope fun X3 => GE X3 elt ρ4 M3 (fun y M4 => CompD X tg elt ifs scope (own.map (·.2)) ρ F (items.drop (i + 1)) (acc ++ [y]) M4) X0) ∧ (b = false → CompD X tg elt ifs scope (own.map (·.2)) ρ F (items.drop (i + 1)) acc M3)) b H5 →
          (if b = true then eB X scope elt σ4 H5 fun y H4 => ∃ acc, H4 L = some (.lst acc) ∧ acc.length < sizeLine ∧ (∃ B' M' acc_1 xs, Ok X.K B' (upd H4 L (.lst (acc ++ [y]))) M' ∧ Fr B1 H1 M1 B' (upd H4 L (.lst (acc ++ [y]))) M' ∧ At B' (upd H4 L (.lst (acc ++ [y]))) M' L xs ∧ RvAll X.K B' xs acc_1 ∧ CompD X tg elt ifs scope (own.map (·.2)) ρ F (items.drop (i + 1)) acc_1 M')
            else ∃ B' M' acc xs, Ok X.K B' H5 M' ∧ Fr B1 H1 M1 B' H5 M' ∧ At B' H5 M' L xs ∧ RvAll X.K B' xs acc ∧ CompD X tg elt ifs scope (own.map (·.2)) ρ F (items.drop (i + 1)) acc M') := fun b H5 ⟨B5, M5, o5, f5, k5⟩ => by
        have a5 := a4.step f5
        have f15 := f14.trans f5
        have r5 := rvAll_mono (f3.ex.trans (f4.ex.trans f5.ex)) r2
        cases b with
        | true =>
          rw [if_pos rfl]
          intro s H C cl fp
          refine eS_mono (k5.1 rfl s H C cl fp B5 H5 σ4 o5 (env_mono f5.ex e4) tk0) fun v H6 ⟨B6, M6, r6, o6, f6, q6, c6⟩ => ?_
          have a6 := a5.step f6
          refine ⟨xs, a6.h, by rw [r2.length]; exact hz, B6, M6, acc ++ [r6], xs ++ [v], (a6.set o6).1, fr_set (f15.trans f6) hL, (a6.set o6).2, RvAll.app (rvAll_mono f6.ex r5) (.cons q6 .nil), c6⟩
        | false =>
          rw [if_neg Bool.false_ne_true]
          exact ⟨B5, M5, acc, xs, o5, f15, a5, r5, k5.2 rfl⟩
      match ifs, k, fin with
      | [], k, fin => exact ⟨tYes, pts_nil, fin true H4 ⟨B4, M4, o4, .refl, k⟩⟩
      | [c], k, fin => exact ⟨_, pts_one pt_S, tS_mono (k B4 H4 σ4 o4 e4 tk0) fin⟩
      | _ :: _ :: _, k, fin => exact k.elim
  · rw [List.drop_length] at c
    exact hd H' B' M' acc xs o f a r c
theorem at_frz {K : Frg} {B H : Hp} {M : Mem} {L : Addr} {xs : List V} (a : At B H M L xs) (ok : Ok K B H M) : Ok K (upd B L (.lst xs)) H M := ⟨fun x u e => by
    by_cases e2 : x = L
    · subst e2; rw [upd_same] at e; cases e; exact a.h
    · rw [upd_ne e2] at e; exact ok.ext x u e, fun q hq => by
    obtain ⟨h1, vs, rs, h2, h3, h4⟩ := ok.mem q hq
    exact ⟨by rw [upd_ne (a.m q hq)]; exact h1, vs, rs, h2, rvAll_mono (same_new a.b) h3, h4⟩, ok.nd⟩
theorem at_own {K : Frg} {B H : Hp} {M : Mem} {L : Addr} {xs : List V} {rs : List Rv} (a : At B H M L xs) (ok : Ok K B H M) (hx : RvAll K B xs rs) : Ok K B H ((L, Is rs) :: M) := ⟨ok.ext, fun q hq => by
    rcases List.mem_cons.mp hq with rfl | hq
    · exact ⟨a.b, xs, rs, a.h, hx, rfl⟩
    · exact ok.mem q hq, by
    rw [List.map_cons, List.nodup_cons]
    exact ⟨fun hm => by
      obtain ⟨q, hq, e⟩ := List.mem_map.mp hm
      exact a.m q hq e, ok.nd⟩⟩
/-- what is wanted of the whole list: it won't change | it may -/
def Frz (Φ : Pst) : List Rv → Mem → Prop := fun acc M => ∃ ds : List PyData, acc = ds.map Rv.d ∧ Φ (.d (.list ds)) M
def Own (Φ : Pst) : List Rv → Mem → Prop := fun acc M => ∀ p, Φ (.cell p) ((p, Is acc) :: M)
theorem lc_end {F : List Rv → Mem → Prop} (hF : F = Frz Φ ∨ F = Own Φ) {B H B1 H1 H' B' : Hp} {M M1 M' : Mem} {L : Addr} {acc : List Rv} {xs : List V} (f1 : Fr B H M B1 H1 M1) (hL : H1 L = none) (o : Ok X.K B' H' M') (f : Fr B1 H1 M1 B' H' M') (a : At B' H' M' L xs) (r : RvAll X.K B' xs acc) (h : F acc M') :
    PostE X.K B H M Φ (.ref L) H' := by
  rcases hF with rfl | rfl
  · obtain ⟨ds, rfl, k⟩ := h
    refine postE_after f1 ⟨upd B' L (.lst xs), M', _, at_frz a o, ⟨f.ex.trans (same_new a.b), fun x u h b m => ?_, f.new, f.grow⟩, .d (.lst (.of upd_same) (dpAll_mono (same_new a.b) _ r.data)), k⟩
    have z := f.out x u h b m
    exact ⟨z.1, by rw [upd_ne (ne_of_none h hL)]; exact z.2⟩
  · refine postE_after f1 ⟨B', _, .cell L, at_own a o r, ⟨f.ex, f.out, fun q hq => ?_, f.grow⟩, .cell L, h L⟩
    rcases List.mem_cons.mp hq with rfl | hq
    · exact .inr hL
    · exact f.new q hq
theorem ge_lc (own : List (Str × Nat)) {F : List Rv → Mem → Prop} (hF : F = Frz Φ ∨ F = Own Φ) (hown : own ≠ []) (hc : X.calm = true) (hN : X.N.Nodup) (hk : BlkOk X.N X.env.scope scope own) (hs : ∀ x, foldedSetIterable iter X.env x = pure x)
    (h : GI X tg iter ρ M (fun items M1 => CompD X tg elt ifs scope (own.map (·.2)) ρ F items [] M1) Ξ) : GE X (.ListComp elt [⟨tg, iter, ifs, 0⟩] scope pos) ρ M Φ Ξ := fun B H σ ok env tk =>
  eS_of (pe_lc (g := gB X scope tg) (tt := tB X scope ifs) (te := eB X scope elt) (own := own) hc hN pi_S hk (fun s H C cl fp => ⟨fun pins s' σ H v u Q I r h => h s _ C cl fp pins s' u I r⟩)
      (fun s H C cl fp => ⟨fun pins s' σ H Q I h => by obtain ⟨t, ht, k⟩ := h s _ C cl fp; exact ht.run pins s' σ H Q I k⟩) (fun s H C cl fp => ⟨fun pins s' σ H Q I h => h s _ C cl fp pins s' I⟩) hs)
    (iS_mono (h B H σ ok env tk) fun J H1 ⟨B1, M1, items, o1, f1, hC, w⟩ L hL => comp_turns own hown (F := F) w o1 (env_mono f1.ex env) hL hC fun H' B' M' acc xs o f a r k => lc_end hF f1 hL o f a r k)
/-- x = [..] -/
theorem gs_lc (own : List (Str × Nat)) {i : Nat} {y : Str} {py spos : Pos} {F : List Rv → Mem → Prop} (hF : F = Frz (fun r M1 => D.nx (ρ.set i r) M1) ∨ F = Own (fun r M1 => D.nx (ρ.set i r) M1)) (hown : own ≠ []) (hv : Var X i y) (hc : X.calm = true) (hN : X.N.Nodup) (hyl : X.env.scope.names.lookup y = some .local)
    (hsw : swapsWith (.ListComp elt [⟨tg, iter, ifs, 0⟩] scope pos) (some (.Name y py)) spos.line X.env = pure true) (hk : BlkOk X.N X.env.scope scope own) (hs : ∀ x, foldedSetIterable iter X.env x = pure x)
    (h : GI X tg iter ρ M (fun items M1 => CompD X tg elt ifs scope (own.map (·.2)) ρ F items [] M1) D.xx) : GS X (.Assign [.Name y py] (.ListComp elt [⟨tg, iter, ifs, 0⟩] scope pos) spos) ρ M D := fun B H σ ok env tk =>
  sS_of (ps_setLc (g := gB X scope tg) (tt := tB X scope ifs) (te := eB X scope elt) (own := own) hc hN hv.n hyl hsw pi_S hk (fun s H C cl fp => ⟨fun pins s' σ H v u Q I r h => h s _ C cl fp pins s' u I r⟩)
      (fun s H C cl fp => ⟨fun pins s' σ H Q I h => by obtain ⟨t, ht, k⟩ := h s _ C cl fp; exact ht.run pins s' σ H Q I k⟩) (fun s H C cl fp => ⟨fun pins s' σ H Q I h => h s _ C cl fp pins s' I⟩) hs)
    (iS_mono (h B H σ ok env tk) fun J H1 ⟨B1, M1, items, o1, f1, hC, w⟩ L hL => comp_turns own hown (F := F) (Q := fun v H1 => gName i v σ H1 (ends X.K B H M D).nx) w o1 (env_mono f1.ex env) hL hC fun H' B' M' acc xs o f a r k => by
      obtain ⟨B2, M2, r2, o2, f2, q2, k2⟩ := lc_end (Φ := fun r M1 => D.nx (ρ.set i r) M1) hF f1 hL o f a r k
      exact ⟨B2, M2, _, o2, f2, env_set (.some q2) i (env_mono f2.ex env), k2⟩)
/-- a comprehension whose elements are data, by a function; the memory stays -/
theorem compD_map {α : Type} {vs : List Nat} {F : List Rv → Mem → Prop} {xs : List α} {g : α → Rv} {f : α → PyData} (hz : xs.length ≤ sizeLine) (h : ∀ x ∈ xs, AllB X scope fun X1 => GG X1 tg (g x) (wipeR ρ vs) M (fun ρ2 M2 => AllB X scope fun X3 => GE X3 elt ρ2 M2 (fun y M4 => y = .d (f x) ∧ M4 = M) X0) vs)
    (hF : F ((xs.map f).map Rv.d) M) : CompD X tg elt [] scope vs ρ F (xs.map g) [] M := by
  have main : ∀ (post pre : List α), xs = pre ++ post → CompD X tg elt [] scope vs ρ F (post.map g) ((pre.map f).map Rv.d) M := by
    intro post
    induction post with
    | nil => intro pre e; rw [List.append_nil] at e; subst e; exact hF
    | cons x post ih =>
      intro pre e
      refine ⟨?_, fun s H C cl fp B' H' σ v ok env q => gS_mono (h x (by rw [e]; simp) s H C cl fp B' H' σ v ok env q) fun σ' H2 ⟨w, B2, M2, ρ2, o2, f2, e2, k⟩ => ⟨w, B2, M2, ρ2, o2, f2, e2, fun s2 H2 C2 cl2 fp2 => ?_⟩⟩
      · rw [List.length_map, List.length_map]
        have z := congrArg List.length e
        rw [List.length_append, List.length_cons] at z
        omega
      · refine ⟨fun _ s3 H3 C3 cl3 fp3 => ge_mono (k s3 H3 C3 cl3 fp3) fun y M4 ⟨e1, e3⟩ => ?_, fun z => by cases z⟩
        subst e1 e3
        have z := ih (pre ++ [x]) (by rw [e]; simp)
        rw [List.map_append, List.map_append] at z
        exact z
  exact main xs [] rfl
end
end
end Dl

set_option Elab.async false
set_option linter.all false
set_option maxRecDepth 100000
set_option maxHeartbeats 4000000
namespace Dl
open PySem PySem.Spec PyProof.Rows L2

/-! ## cells of the memory -/
inductive Cell (c : Addr) (P P' : List Rv → Prop) : Mem → Mem → Prop
  | h {M : Mem} : Cell c P P' ((c, P) :: M) ((c, P') :: M)
  | t {x : Addr × (List Rv → Prop)} {M M' : Mem} : Cell c P P' M M' → Cell c P P' (x :: M) (x :: M')
theorem Cell.split {c : Addr} {P P' : List Rv → Prop} {M M' : Mem} (h : Cell c P P' M M') : ∃ Ma Mb, M = Ma ++ (c, P) :: Mb ∧ M' = Ma ++ (c, P') :: Mb := by
  induction h with
  | h => exact ⟨[], _, rfl, rfl⟩
  | t _ ih => obtain ⟨Ma, Mb, e1, e2⟩ := ih; exact ⟨_ :: Ma, Mb, by rw [e1]; rfl, by rw [e2]; rfl⟩
inductive Del (c : Addr) (P : List Rv → Prop) : Mem → Mem → Prop
  | h {M : Mem} : Del c P ((c, P) :: M) M
  | t {x : Addr × (List Rv → Prop)} {M M' : Mem} : Del c P M M' → Del c P (x :: M) (x :: M')
theorem Del.split {c : Addr} {P : List Rv → Prop} {M M' : Mem} (h : Del c P M M') : ∃ Ma Mb, M = Ma ++ (c, P) :: Mb ∧ M' = Ma ++ Mb := by
  induction h with
  | h => exact ⟨[], _, rfl, rfl⟩
  | t _ ih => obtain ⟨Ma, Mb, e1, e2⟩ := ih; exact ⟨_ :: Ma, Mb, by rw [e1]; rfl, by rw [e2]; rfl⟩
inductive Has (c : Addr) (P : List Rv → Prop) : Mem → Prop
  | h {M : Mem} : Has c P ((c, P) :: M)
  | t {x : Addr × (List Rv → Prop)} {M : Mem} : Has c P M → Has c P (x :: M)
theorem Has.split {c : Addr} {P : List Rv → Prop} {M : Mem} (h : Has c P M) : ∃ Ma Mb, M = Ma ++ (c, P) :: Mb ∧ ∀ P', Cell c P P' M (Ma ++ (c, P') :: Mb) := by
  induction h with
  | h => exact ⟨[], _, rfl, fun _ => .h⟩
  | t _ ih => obtain ⟨Ma, Mb, e1, e2⟩ := ih; exact ⟨_ :: Ma, Mb, by rw [e1]; rfl, fun P' => .t (e2 P')⟩
theorem Has.mem {c : Addr} {P : List Rv → Prop} {M : Mem} (h : Has c P M) : (c, P) ∈ M := by
  obtain ⟨Ma, Mb, e, _⟩ := h.split
  rw [e]; simp
/-- less is told: cells are left out, contents are told less of -/
inductive Le : Mem → Mem → Prop
  | nil : Le [] []
  | keep {c : Addr} {P P' : List Rv → Prop} {M M' : Mem} : (∀ rs, P rs → P' rs) → Le M M' → Le ((c, P) :: M) ((c, P') :: M')
  | drop {x : Addr × (List Rv → Prop)} {M M' : Mem} : Le M M' → Le (x :: M) M'
theorem Le.refl : ∀ (M : Mem), Le M M
  | [] => .nil
  | (_, _) :: M => .keep (fun _ h => h) (Le.refl M)
theorem Le.mem : ∀ {M M' : Mem}, Le M M' → ∀ q ∈ M', ∃ p ∈ M, p.1 = q.1 ∧ ∀ rs, p.2 rs → q.2 rs
  | _, _, .nil, q, h => absurd h (by simp)
  | _, _, .keep (c := c) (P := P) hp l, q, h => by
    rcases List.mem_cons.mp h with rfl | h
    · exact ⟨_, List.mem_cons_self, rfl, hp⟩
    · obtain ⟨p, h1, h2⟩ := l.mem q h
      exact ⟨p, List.mem_cons_of_mem _ h1, h2⟩
  | _, _, .drop l, q, h => by
    obtain ⟨p, h1, h2⟩ := l.mem q h
    exact ⟨p, List.mem_cons_of_mem _ h1, h2⟩
theorem Le.sub : ∀ {M M' : Mem}, Le M M' → (M'.map (·.1)).Sublist (M.map (·.1))
  | _, _, .nil => .slnil
  | _, _, .keep _ l => .cons_cons _ l.sub
  | _, _, .drop l => .cons _ l.sub
theorem ok_le {K : Frg} {B H : Hp} {M M' : Mem} (l : Le M M') (ok : Ok K B H M) : Ok K B H M' ∧ Fr B H M B H M' :=
  ⟨⟨ok.ext, fun q hq => by
    obtain ⟨p, hp, e, i⟩ := l.mem q hq
    obtain ⟨h1, xs, rs, h2, h3, h4⟩ := ok.mem p hp
    exact ⟨by rw [← e]; exact h1, xs, rs, by rw [← e]; exact h2, h3, i rs h4⟩, ok.nd.sublist l.sub⟩,
   ⟨Same.refl _, fun _ _ h b _ => ⟨h, b⟩, fun q hq => let ⟨p, hp, e, _⟩ := l.mem q hq; .inl ⟨p, hp, e⟩, fun _ h => h⟩⟩
section
variable {X : Cx} {ρ : List Rv} {M : Mem} {Φ : Pst} {Ξ : Xi} {D : DE}
theorem ge_le {e : Expr} (h : GE X e ρ M (fun r M1 => ∃ M2, Le M1 M2 ∧ Φ r M2) Ξ) : GE X e ρ M Φ Ξ := fun B H σ ok env tk =>
  one h ok env tk fun v H1 B1 M1 r o1 f1 q1 ⟨M2, l, k⟩ => ⟨B1, M2, r, (ok_le l o1).1, f1.trans (ok_le l o1).2, q1, k⟩
theorem gss_le {st : List Stmt} {M2 : Mem} (l : Le M M2) (h : GSs X st ρ M2 D) : GSs X st ρ M D := fun B H σ ok env tk =>
  ssS_mono (h B H σ (ok_le l ok).1 env (tk_after tk (ok_le l ok).2)) (ends_after (ok_le l ok).2)
theorem gs_retL {e : Expr} {pos : Pos} (h : GE X e ρ M (fun r M1 => ∃ M2, Le M1 M2 ∧ D.rt r M2) D.xx) : GS X (.Return (some e) pos) ρ M D := gs_ret (ge_le h)
theorem gss_look {st : List Stmt} {c : Addr} {P : List Rv → Prop} (hc : Has c P M) (h : ∀ rs M', P rs → Cell c P (Is rs) M M' → GSs X st ρ M' D) : GSs X st ρ M D := by
  obtain ⟨Ma, Mb, e, k⟩ := hc.split
  subst e
  exact gss_open fun rs hr => h rs _ hr (k _)
/-! the rules over cells, with the place found -/
theorem append_at {o e : Expr} {apos cpos : Pos} (h1 : attributeBase o "append" X.env (eval o X.env) = eval o X.env)
    (h2 : ((backTo cpos (starEach [e] X.env)).all (!·.1) && (backToKw cpos (keywordEach [] X.env)).all (·.1.isSome) && decide (([e] : List Expr).length + ([] : List Keyword).length + (if ([] : List Keyword).isEmpty = true then 0 else 1) < 30)) = true)
    (h3 : (apos.endLine == cpos.line) = true) (h4 : starEach [e] X.env = (false, eval e X.env) :: starEach [] X.env) (h5 : (backTo cpos (starEach [] X.env)).any (·.1) = false)
    (h : GE X o ρ M (fun x M1 => ∃ p P, x = .cell p ∧ Has p P M1 ∧ GE X e ρ M1 (fun r M2 => ∃ rs M3, Cell p (Is rs) (Is (rs ++ [r])) M2 M3 ∧ rs.length < sizeLine ∧ Φ (.d .none) M3) Ξ) Ξ) :
    GE X (.Call (.Attribute o "append" apos) [e] [] cpos) ρ M Φ Ξ :=
  ge_append h1 h2 h3 h4 h5 (ge_mono h fun x M1 ⟨p, P, e1, hm, he⟩ => ⟨p, P, e1, hm.mem, ge_mono he fun r M2 ⟨rs, M3, hc, hz, k⟩ => by
    obtain ⟨Ma, Mb, e2, e3⟩ := hc.split
    subst e2 e3
    exact ⟨rs, Ma, Mb, rfl, hz, k⟩⟩)
theorem setix_at {o i e : Expr} {p1 pos : Pos} (h1 : swapsWithSole [.Subscript o i p1] e pos.line X.env = pure false) (h2 : swappedStores [.Subscript o i p1] e X.env = pure none) (h3 : (assignEach [.Subscript o i p1] X.env).map (·.2) = [assign (.Subscript o i p1) X.env])
    (h4 : ∀ v, assign (.Subscript o i p1) X.env v = (do let ov ← holding [v] (eval o X.env); let iv ← holding [v, ov] (eval i X.env); standAt p1; holding [v, ov, iv] (setItem ov iv v); release [v, ov, iv] []))
    (h : GE X e ρ M (fun r M1 => GE X o ρ M1 (fun x M2 => GE X i ρ M2 (fun y M3 => ∃ p rs k j M4, x = .cell p ∧ y = .d (.int k) ∧ Cell p (Is rs) (Is (rs.set j r)) M3 M4 ∧ ixN rs.length k = some j ∧ D.nx ρ M4) D.xx) D.xx) D.xx) :
    GS X (.Assign [.Subscript o i p1] e pos) ρ M D :=
  gs_setix h1 h2 h3 h4 (ge_mono h fun r M1 ho => ge_mono ho fun x M2 hi => ge_mono hi fun y M3 ⟨p, rs, k, j, M4, e1, e2, hc, hj, z⟩ => by
    obtain ⟨Ma, Mb, e3, e4⟩ := hc.split
    subst e3 e4
    exact ⟨p, rs, Ma, Mb, k, j, e1, e2, rfl, hj, z⟩)
theorem ixC_at {a b : Expr} {pos : Pos} (hp : PlainIx b) (ha : GE X a ρ M (fun x M1 => GE X b ρ M1 (fun y M2 => ∃ (p : Addr) (rs : List Rv) (i : Int) (r : Rv), x = .cell p ∧ Has p (Is rs) M2 ∧ y = .d (.int i) ∧ atI rs i = some r ∧ Φ r M2) Ξ) Ξ) : GE X (.Subscript a b pos) ρ M Φ Ξ :=
  ge_ixC hp (ge_mono ha fun x M1 hb => ge_mono hb fun y M2 ⟨p, rs, i, r, e1, hm, e2, e3, k⟩ => ⟨p, Is rs, i, e1, hm.mem, e2, fun rs' (h : rs' = rs) => by rw [h]; exact ⟨r, e3, k⟩⟩)
theorem sliceC_at {e : Expr} {lo hi : Option Expr} {pos p2 : Pos} (h : GE X e ρ M (fun x M1 => GO X lo ρ M1 (fun l M2 => GO X hi ρ M2 (fun u M3 => ∃ (p : Addr) (ds : List PyData), x = .cell p ∧ Has p (Is (ds.map Rv.d)) M3 ∧ Φ (.d (.list (cutD ds l u))) M3) Ξ) Ξ) Ξ) : GE X (.Subscript e (.Slice lo hi none p2) pos) ρ M Φ Ξ :=
  ge_sliceC (ge_mono h fun x M1 hl B H σ ok env tk => pS_mono (hl B H σ ok env tk) fun l H1 ⟨B1, M2, o1, f1, hu⟩ => ⟨B1, M2, o1, f1, fun B H σ ok env tk => pS_mono (hu B H σ ok env tk) fun u H2 ⟨B2, M3, o2, f2, p, ds, e1, hm, k⟩ =>
    ⟨B2, M3, o2, f2, p, Is (ds.map Rv.d), e1, hm.mem, fun rs (h : rs = ds.map Rv.d) => ⟨ds, h, k⟩⟩⟩)
theorem lenC_at {p : Addr} {rs : List Rv} (hm : Has p (Is rs) M) (h : Φ (.d (.int rs.length)) M) : GC X (.builtin "len") [.cell p] M Φ := gc_lenC hm.mem fun rs' (e : rs' = rs) => by rw [e]; exact h
theorem frz_at {st : List Stmt} {M2 : Mem} {a : Addr} {ds : List PyData} {i : Nat} (hd : Del a (Is (ds.map Rv.d)) M M2) (hi : ρ[i]? = some (.cell a)) (h : GSs X st (ρ.set i (.d (.list ds))) M2 D) : GSs X st ρ M D := by
  obtain ⟨Ma, Mb, e1, e2⟩ := hd.split
  subst e1 e2
  exact gss_freeze hi h
theorem frzv_at {e : Expr} (h : GE X e ρ M (fun r M1 => ∃ a ds M2, r = .cell a ∧ Del a (Is (ds.map Rv.d)) M1 M2 ∧ Φ (.d (.list ds)) M2) Ξ) : GE X e ρ M Φ Ξ :=
  ge_freeze (ge_mono h fun r M1 ⟨a, ds, M2, e1, hd, k⟩ => by
    obtain ⟨Ma, Mb, e2, e3⟩ := hd.split
    subst e2 e3
    exact ⟨a, ds, Ma, Mb, e1, rfl, k⟩)
end
end Dl

set_option Elab.async false
set_option linter.all false
set_option maxRecDepth 100000
set_option maxHeartbeats 4000000
namespace Dl
open PySem PySem.Spec PyProof.Rows L2
theorem Cell.app {c : Addr} {P P' : List Rv → Prop} : ∀ {Ma Mb : Mem}, Cell c P P' (Ma ++ (c, P) :: Mb) (Ma ++ (c, P') :: Mb)
  | [], _ => .h
  | _ :: _, _ => .t Cell.app
theorem Has.app {c : Addr} {P : List Rv → Prop} : ∀ {Ma Mb : Mem}, Has c P (Ma ++ (c, P) :: Mb)
  | [], _ => .h
  | _ :: _, _ => .t Has.app
theorem Le.app {c : Addr} {P P' : List Rv → Prop} (h : ∀ rs, P rs → P' rs) : ∀ {Ma Mb : Mem}, Le (Ma ++ (c, P) :: Mb) (Ma ++ (c, P') :: Mb)
  | [], Mb => .keep h (.refl Mb)
  | (_, _) :: _, _ => .keep (fun _ h => h) (Le.app h)
section
variable {X : Cx} {N : List Str} {sc : Scope} {ρ : List Rv} {M : Mem} {Φ : Pst} {Ξ : Xi} {D : DE}
theorem Cxt.var (cx : Cxt X N sc) {i : Nat} {x : Str} (h1 : N[i]? = some x) (h2 : sc.names.lookup x = some .local ∨ sc.names.lookup x = some .cell) (h3 : (x == ("__debug__" : Str)) = false) (h4 : (x == ("__classdict__" : Str)) = false) : Var X i x :=
  ⟨by rw [cx.hN]; exact h1, by rw [cx.sc]; exact h2.elim (fun h => .inl h) fun h => .inr (.inl h), by rw [cx.sc]; exact h2, cx.fn x, h3, h4⟩
theorem Cxt.nm (cx : Cxt X N sc) {i : Nat} {x : Str} (h1 : N[i]? = some x) : Nm X i x := by
  unfold Nm; rw [cx.hN]; exact h1
theorem Cxt.gl (cx : Cxt X N sc) {x : Str} (h : sc.names.lookup x = some .globalImplicit) : Gl X x := by
  unfold Gl Env.kindOf; rw [cx.sc]; exact h
theorem Var.nm {i : Nat} {x : Str} (v : Var X i x) : Nm X i x := v.n
theorem szL {n : Nat} (h : n ≤ 100000) : n ≤ sizeLine := Nat.le_trans h (by decide)
theorem szT {n : Nat} (h : n ≤ 100000) : n < sizeLine := Nat.lt_of_le_of_lt h (by decide)
/-! data out of what is known -/
inductive DataL : List Rv → List PyData → Prop
  | nil : DataL [] []
  | cons {d : PyData} {rs : List Rv} {ds : List PyData} : DataL rs ds → DataL (.d d :: rs) (d :: ds)
theorem DataL.eq {rs : List Rv} {ds : List PyData} (h : DataL rs ds) : rs = ds.map Rv.d := by
  induction h with
  | nil => rfl
  | cons _ ih => rw [List.map_cons, ← ih]
theorem tup_at {es : List Expr} {k : Nat} {pos : Pos} (h : GA X es ρ M (fun rs M1 => ∃ ds : List PyData, DataL rs ds ∧ ds.length ≤ sizeLine ∧ Φ (.d (.tuple ds)) M1) Ξ) : GE X (.Tuple es k pos) ρ M Φ Ξ :=
  ge_tup fun B H σ ok env tk => aS_mono (h B H σ ok env tk) fun _ _ ⟨B', M', rs, o, f, q, ds, hd, z, k⟩ => ⟨B', M', rs, o, f, q, ds, hd.eq, z, k⟩
theorem lst_at {es : List Expr} {pos : Pos} (h : GA X es ρ M (fun rs M1 => ∃ ds : List PyData, DataL rs ds ∧ ds.length ≤ sizeLine ∧ Φ (.d (.list ds)) M1) Ξ) : GE X (.List es pos) ρ M Φ Ξ :=
  ge_lst fun B H σ ok env tk => aS_mono (h B H σ ok env tk) fun _ _ ⟨B', M', rs, o, f, q, ds, hd, z, k⟩ => ⟨B', M', rs, o, f, q, ds, hd.eq, z, k⟩
/-! numbers -/
theorem bits_le {i : Int} {k : Nat} (h : i.natAbs < 2 ^ k) (hk : 0 < k) : Builtin.Int.intBits i ≤ k := by
  have y := PySem.Flt.log2_lt_of hk h
  unfold Builtin.Int.intBits
  split <;> omega
theorem cpow {i : Int} {k n : Nat} (h : i.natAbs < 2 ^ k) (hk : 0 < k) (hz : k * n ≤ 2 ^ 27) : CPowW i n := by
  refine ⟨by omega, ?_⟩
  have b := bits_le h hk
  have : (Builtin.Int.intBits i : Int) * n ≤ ((k * n : Nat) : Int) := by
    rw [Int.natCast_mul]
    exact Int.mul_le_mul_of_nonneg_right (by omega) (by omega)
  omega
theorem g2_ten (n : Nat) {j r : Int} (ej : j = n) (hz : n ≤ 1000) (e : (10 : Int) ^ n = r) (h : Φ (.d (.int r)) M) : G2 X (binaryOp .Pow) (.d (.int 10)) (.d (.int j)) M Φ := by
  subst ej
  exact g2_pow (cpow (k := 4) (by decide) (by decide) (by omega)) e h
/-- i ** 3: some int -/
theorem g2_cube {i : Int} (hb : i.natAbs < 2 ^ 1000) (h : ∀ r, Φ (.d (.int r)) M) : G2 X (binaryOp .Pow) (.d (.int i)) (.d (.int 3)) M Φ :=
  g2_pow (n := 3) (cpow (k := 1000) hb (by decide) (by decide)) rfl (h _)
theorem mulB {i j : Int} (h1 : i.natAbs < 2 ^ 1000) (h2 : j.natAbs < 2 ^ 1000) : CMulW i j := wide_mul h1 h2 (by decide) (by decide) (by decide)
theorem divB {i j : Int} (h1 : 0 < j) (h2 : j.natAbs < 2 ^ 1000) : CDivW i j := wide_div h1 h2 (by decide) (by decide)
theorem ten6 (h : Φ (.d (.int 1000000)) M) : G2 X (binaryOp .Pow) (.d (.int 10)) (.d (.int 6)) M Φ := g2_ten 6 rfl (by decide) (by decide +kernel) h
theorem ten10 (h : Φ (.d (.int 10000000000)) M) : G2 X (binaryOp .Pow) (.d (.int 10)) (.d (.int 10)) M Φ := g2_ten 10 rfl (by decide) (by decide +kernel) h
theorem ten12 (h : Φ (.d (.int 1000000000000)) M) : G2 X (binaryOp .Pow) (.d (.int 10)) (.d (.int 12)) M Φ := g2_ten 12 rfl (by decide) (by decide +kernel) h
theorem ten18 (h : Φ (.d (.int 1000000000000000000)) M) : G2 X (binaryOp .Pow) (.d (.int 10)) (.d (.int 18)) M Φ := g2_ten 18 rfl (by decide) (by decide +kernel) h
theorem ten20 (h : Φ (.d (.int 100000000000000000000)) M) : G2 X (binaryOp .Pow) (.d (.int 10)) (.d (.int 20)) M Φ := g2_ten 20 rfl (by decide) (by decide +kernel) h
theorem ten24 (h : Φ (.d (.int 1000000000000000000000000)) M) : G2 X (binaryOp .Pow) (.d (.int 10)) (.d (.int 24)) M Φ := g2_ten 24 rfl (by decide) (by decide +kernel) h
theorem ten25 (h : Φ (.d (.int 10000000000000000000000000)) M) : G2 X (binaryOp .Pow) (.d (.int 10)) (.d (.int 25)) M Φ := g2_ten 25 rfl (by decide) (by decide +kernel) h
theorem ten26 (h : Φ (.d (.int 100000000000000000000000000)) M) : G2 X (binaryOp .Pow) (.d (.int 10)) (.d (.int 26)) M Φ := g2_ten 26 rfl (by decide) (by decide +kernel) h
theorem ten27 (h : Φ (.d (.int 1000000000000000000000000000)) M) : G2 X (binaryOp .Pow) (.d (.int 10)) (.d (.int 27)) M Φ := g2_ten 27 rfl (by decide) (by decide +kernel) h
theorem ten28 (h : Φ (.d (.int 10000000000000000000000000000)) M) : G2 X (binaryOp .Pow) (.d (.int 10)) (.d (.int 28)) M Φ := g2_ten 28 rfl (by decide) (by decide +kernel) h
theorem ten29 (h : Φ (.d (.int 100000000000000000000000000000)) M) : G2 X (binaryOp .Pow) (.d (.int 10)) (.d (.int 29)) M Φ := g2_ten 29 rfl (by decide) (by decide +kernel) h
theorem ten30 (h : Φ (.d (.int 1000000000000000000000000000000)) M) : G2 X (binaryOp .Pow) (.d (.int 10)) (.d (.int 30)) M Φ := g2_ten 30 rfl (by decide) (by decide +kernel) h
theorem ten37 (h : Φ (.d (.int 10000000000000000000000000000000000000)) M) : G2 X (binaryOp .Pow) (.d (.int 10)) (.d (.int 37)) M Φ := g2_ten 37 rfl (by decide) (by decide +kernel) h
theorem ten41 (h : Φ (.d (.int 100000000000000000000000000000000000000000)) M) : G2 X (binaryOp .Pow) (.d (.int 10)) (.d (.int 41)) M Φ := g2_ten 41 rfl (by decide) (by decide +kernel) h
theorem ten46 (h : Φ (.d (.int 10000000000000000000000000000000000000000000000)) M) : G2 X (binaryOp .Pow) (.d (.int 10)) (.d (.int 46)) M Φ := g2_ten 46 rfl (by decide) (by decide +kernel) h
/-! statements, the ends written out -/
inductive SetAt (r : Rv) : Nat → List Rv → List Rv → Prop
  | z {x : Rv} {ρ : List Rv} : SetAt r 0 (x :: ρ) (r :: ρ)
  | s {i : Nat} {x : Rv} {ρ ρ' : List Rv} : SetAt r i ρ ρ' → SetAt r (i + 1) (x :: ρ) (x :: ρ')
theorem SetAt.eq {r : Rv} {i : Nat} {ρ ρ' : List Rv} (h : SetAt r i ρ ρ') : ρ.set i r = ρ' := by
  induction h with
  | z => rfl
  | s _ ih => rw [List.set_cons_succ, ih]
section
variable {nx : List Rv → Mem → Prop} {rt : Pst} {bk ct : List Rv → Mem → Prop} {xx : Xi}
theorem sq {st : Stmt} {rest : List Stmt} (h : GS X st ρ M ⟨fun ρ1 M1 => GSs X rest ρ1 M1 ⟨nx, rt, bk, ct, xx⟩, rt, bk, ct, xx⟩) : GSs X (st :: rest) ρ M ⟨nx, rt, bk, ct, xx⟩ := gss_cons h
theorem sNil (h : nx ρ M) : GSs X [] ρ M ⟨nx, rt, bk, ct, xx⟩ := gss_nil h
theorem sSet {i : Nat} {x : Str} {e : Expr} {pos pos' : Pos} (hv : Var X i x) (nd : X.N.Nodup) (hs : swapsWith e (some (.Name x pos')) pos.line X.env = pure false)
    (h : GE X e ρ M (fun r M1 => ∃ ρ', SetAt r i ρ ρ' ∧ nx ρ' M1) xx) : GS X (.Assign [.Name x pos'] e pos) ρ M ⟨nx, rt, bk, ct, xx⟩ := gs_set hv nd hs (ge_mono h fun r M1 ⟨ρ', s, k⟩ => by rw [← s.eq] at k; exact k)
theorem sIf {c : Expr} {a b : List Stmt} {pos : Pos} (h : GT X c ρ M (fun k M1 => (k = true → GSs X a ρ M1 ⟨nx, rt, bk, ct, xx⟩) ∧ (k = false → GSs X b ρ M1 ⟨nx, rt, bk, ct, xx⟩)) xx) : GS X (.If c a b pos) ρ M ⟨nx, rt, bk, ct, xx⟩ := gs_if h
theorem sRet {e : Expr} {pos : Pos} (h : GE X e ρ M (fun r M1 => ∃ M2, Le M1 M2 ∧ rt r M2) xx) : GS X (.Return (some e) pos) ρ M ⟨nx, rt, bk, ct, xx⟩ := gs_retL h
theorem sExpr {e : Expr} {pos : Pos} (hs : swapsWith e none pos.line X.env = pure false) (h : GE X e ρ M (fun _ M1 => nx ρ M1) xx) : GS X (.Expr e pos) ρ M ⟨nx, rt, bk, ct, xx⟩ := gs_expr hs h
theorem sPass {pos : Pos} (h : nx ρ M) : GS X (.Pass pos) ρ M ⟨nx, rt, bk, ct, xx⟩ := gs_pass h
theorem sPar {i j : Nat} {x y : Str} {a b : Expr} {px py pt pt2 pos : Pos} {kt k2 : Nat} (hx : Var X i x) (hy : Var X j y) (hc : X.calm = true) (nd : X.N.Nodup) (hij : i ≠ j) (lx : X.env.scope.names.lookup x = some .local) (ly : X.env.scope.names.lookup y = some .local)
    (hs : swappedStores [.Tuple [.Name x px, .Name y py] kt pt] (.Tuple [a, b] k2 pt2) X.env = pure (some [x, y])) (hw : swapsWithSole [.Tuple [.Name x px, .Name y py] kt pt] (.Tuple [a, b] k2 pt2) pos.line X.env = pure false)
    (h : GA X [a, b] ρ M (fun rs M1 => ∃ r q ρ1 ρ2, rs = [r, q] ∧ SetAt r i ρ ρ1 ∧ SetAt q j ρ1 ρ2 ∧ nx ρ2 M1) xx) : GS X (.Assign [.Tuple [.Name x px, .Name y py] kt pt] (.Tuple [a, b] k2 pt2) pos) ρ M ⟨nx, rt, bk, ct, xx⟩ :=
  gs_par hx hy hc nd hij lx ly hs hw fun B H σ ok env tk => aS_mono (h B H σ ok env tk) fun _ _ ⟨B', M', rs, o, f, q, r, q2, ρ1, ρ2, e, s1, s2, k⟩ => ⟨B', M', rs, o, f, q, r, q2, e, by rw [s1.eq, s2.eq]; exact k⟩
theorem sAsg {tg e : Expr} {pos : Pos} (h1 : swapsWithSole [tg] e pos.line X.env = pure false) (h2 : swappedStores [tg] e X.env = pure none) (h3 : (assignEach [tg] X.env).map (·.2) = [assign tg X.env])
    (h : GE X e ρ M (fun r M1 => GG X tg r ρ M1 nx []) xx) : GS X (.Assign [tg] e pos) ρ M ⟨nx, rt, bk, ct, xx⟩ := gs_asg h1 h2 h3 h
/-- a written place -/
inductive IxSet (r : Rv) : Int → List Rv → List Rv → Prop
  | zero {x : Rv} {ρ : List Rv} : IxSet r 0 (x :: ρ) (r :: ρ)
  | one {x y : Rv} {ρ : List Rv} : IxSet r 1 (x :: y :: ρ) (x :: r :: ρ)
  | two {x y z : Rv} {ρ : List Rv} : IxSet r 2 (x :: y :: z :: ρ) (x :: y :: r :: ρ)
  | any {k : Int} {j : Nat} {ρ : List Rv} : ixN ρ.length k = some j → IxSet r k ρ (ρ.set j r)
theorem IxSet.eq {r : Rv} {k : Int} {rs qs : List Rv} (h : IxSet r k rs qs) : ∃ j, ixN rs.length k = some j ∧ rs.set j r = qs := by
  cases h with
  | zero => exact ⟨0, by unfold ixN; rw [if_pos (by decide), if_pos (by rw [List.length_cons]; omega)]; rfl, rfl⟩
  | one => exact ⟨1, by unfold ixN; rw [if_pos (by decide), if_pos (by rw [List.length_cons, List.length_cons]; omega)]; rfl, rfl⟩
  | two => exact ⟨2, by unfold ixN; rw [if_pos (by decide), if_pos (by rw [List.length_cons, List.length_cons, List.length_cons]; omega)]; rfl, rfl⟩
  | any h => exact ⟨_, h, rfl⟩
theorem sIx {o i e : Expr} {p1 pos : Pos} (h1 : swapsWithSole [.Subscript o i p1] e pos.line X.env = pure false) (h2 : swappedStores [.Subscript o i p1] e X.env = pure none) (h3 : (assignEach [.Subscript o i p1] X.env).map (·.2) = [assign (.Subscript o i p1) X.env])
    (h4 : ∀ v, assign (.Subscript o i p1) X.env v = (do let ov ← holding [v] (eval o X.env); let iv ← holding [v, ov] (eval i X.env); standAt p1; holding [v, ov, iv] (setItem ov iv v); release [v, ov, iv] []))
    (h : GE X e ρ M (fun r M1 => GE X o ρ M1 (fun x M2 => GE X i ρ M2 (fun y M3 => ∃ p k rs qs M4, x = .cell p ∧ y = .d (.int k) ∧ Cell p (Is rs) (Is qs) M3 M4 ∧ IxSet r k rs qs ∧ nx ρ M4) xx) xx) xx) :
    GS X (.Assign [.Subscript o i p1] e pos) ρ M ⟨nx, rt, bk, ct, xx⟩ :=
  setix_at h1 h2 h3 h4 (ge_mono h fun r M1 ho => ge_mono ho fun x M2 hi => ge_mono hi fun y M3 ⟨p, k, rs, qs, M4, e1, e2, c, s, z⟩ => by
    obtain ⟨j, e3, e4⟩ := s.eq
    subst e4
    exact ⟨p, rs, k, j, M4, e1, e2, c, e3, z⟩)
theorem sFor {tg iter : Expr} {body : List Stmt} {pos : Pos} (hp : PassesOwn (model X.prog X.w) X.A X.env X.xe) (hc : X.calm = true) (hf : ∀ x, foldedSetIterable iter X.env x = pure x)
    (h : GI X tg iter ρ M (fun items M1 => ForD X tg body ⟨nx, rt, bk, ct, xx⟩ items ρ M1) xx) : GS X (.For tg iter body [] pos) ρ M ⟨nx, rt, bk, ct, xx⟩ := gs_for hp hc hf h
theorem gName {i : Nat} {x : Str} {pos : Pos} {r : Rv} {Ψ : List Rv → Mem → Prop} {vs : List Nat} (hv : Var X i x) (nd : X.N.Nodup) (hvs : vs = [] ∨ i ∈ vs) {ρ' : List Rv} (s : SetAt r i ρ ρ')
    (h : Ψ ρ' M) : GG X (.Name x pos) r ρ M Ψ vs := gg_name nd hv.n hv.l (.inl hv.f) hvs (by rw [s.eq]; exact h)
theorem for_map {α : Type} {tg : Expr} {body : List Stmt} {xs : List α} {g : α → Rv} (Iv : List α → List Rv → Mem → Prop) (h0 : Iv [] ρ M)
    (hs : ∀ pre x post ρ' M', xs = pre ++ x :: post → Iv pre ρ' M' → GG X tg (g x) ρ' M' (fun ρ2 M2 => GSs X body ρ2 M2 ⟨Iv (pre ++ [x]), rt, nx, Iv (pre ++ [x]), xx⟩) [])
    (hd : ∀ ρ' M', Iv xs ρ' M' → nx ρ' M') : ForD X tg body ⟨nx, rt, bk, ct, xx⟩ (xs.map g) ρ M := forD_map Iv h0 hs hd
end
/-! an item, whatever holds it -/
def GIx (X : Cx) (x y : Rv) (M : Mem) (Φ : Pst) : Prop := ∀ B H v w, Ok X.K B H M → RvOk X.K B v x → RvOk X.K B w y → (rIxL X.K v w H (PostE X.K B H M Φ) ∨ rIxT X.K v w H (PostE X.K B H M Φ) ∨ rIxS v w H (PostE X.K B H M Φ))
theorem ge_ix {a b : Expr} {pos : Pos} (hp : PlainIx b) (ha : GE X a ρ M (fun x M1 => GE X b ρ M1 (fun y M2 => GIx X x y M2 Φ) Ξ) Ξ) : GE X (.Subscript a b pos) ρ M Φ Ξ := fun B H σ ok env tk =>
  eS_of (pe_ix ix_seq pe_S pe_S hp) (one ha ok env tk fun v H1 B1 M1 r o1 f1 q1 hb => one hb o1 (env_mono f1.ex env) (tk_after tk f1) fun w H2 B2 M2 r2 o2 f2 q2 k => by
    rcases k B2 H2 v w o2 (rv_mono f2.ex q1) q2 with ⟨p, xs, i, z, e1, e2, h1, h2, h3⟩ | ⟨p, xs, i, z, e1, e2, h1, h2, h3⟩ | ⟨p, i, z, e1, e2, h0, h1, h2⟩
    · exact .inl ⟨p, xs, i, z, e1, e2, h1, h2, postE_after (f1.trans f2) h3⟩
    · exact .inr (.inl ⟨p, xs, i, z, e1, e2, h1, h2, postE_after (f1.trans f2) h3⟩)
    · exact .inr (.inr ⟨p, i, z, e1, e2, h0, h1, postE_after (f1.trans f2) h2⟩))
theorem ix_l {ds : List PyData} {i : Int} {d : PyData} (h : atI ds i = some d) (k : Φ (.d d) M) : GIx X (.d (.list ds)) (.d (.int i)) M Φ := fun B H v w ok q1 q2 => by
  cases q1 with
  | d q1 => cases q1 with
    | lst hs ha =>
      unfold atI at h
      obtain ⟨j, h1, h2⟩ := Option.bind_eq_some_iff.mp h
      obtain ⟨x, h3, h4⟩ := DpAll.get j d ha h2
      refine .inl ⟨_, _, i, x, rfl, int_of q2, ok.ext.seq hs, ?_, post_same ok (.d h4) k⟩
      unfold atI
      rw [DpAll.len ha, h1]
      exact h3
theorem ix_t {ds : List PyData} {i : Int} {d : PyData} (h : atI ds i = some d) (k : Φ (.d d) M) : GIx X (.d (.tuple ds)) (.d (.int i)) M Φ := fun B H v w ok q1 q2 => by
  cases q1 with
  | d q1 => cases q1 with
    | tup hs ha =>
      unfold atI at h
      obtain ⟨j, h1, h2⟩ := Option.bind_eq_some_iff.mp h
      obtain ⟨x, h3, h4⟩ := DpAll.get j d ha h2
      refine .inr (.inl ⟨_, _, i, x, rfl, int_of q2, sq_mono ok.ext hs, ?_, post_same ok (.d h4) k⟩)
      unfold atI
      rw [DpAll.len ha, h1]
      exact h3
theorem ix_u {rs : List Rv} {i : Int} {r : Rv} (h : atI rs i = some r) (k : Φ r M) : GIx X (.tup rs) (.d (.int i)) M Φ := fun B H v w ok q1 q2 => by
  cases q1 with
  | tup hs ha =>
      unfold atI at h
      obtain ⟨j, h1, h2⟩ := Option.bind_eq_some_iff.mp h
      obtain ⟨x, h3, h4⟩ := RvAll.get j r ha h2
      refine .inr (.inl ⟨_, _, i, x, rfl, int_of q2, sq_mono ok.ext hs, ?_, post_same ok h4 k⟩)
      unfold atI
      rw [ha.length, h1]
      exact h3
theorem ix_c {p : Addr} {rs : List Rv} {i : Int} {r : Rv} (hm : Has p (Is rs) M) (h : atI rs i = some r) (k : Φ r M) : GIx X (.cell p) (.d (.int i)) M Φ := fun B H v w ok q1 q2 => by
  cases q1
  obtain ⟨_, xs, rs', hH, hx, hP⟩ := ok.mem _ hm.mem
  have e : rs' = rs := hP
  subst e
  unfold atI at h
  obtain ⟨j, h1, h2⟩ := Option.bind_eq_some_iff.mp h
  obtain ⟨x, h3, h4⟩ := RvAll.get j r hx h2
  refine .inl ⟨_, _, i, x, rfl, int_of q2, .of hH, ?_, post_same ok h4 k⟩
  unfold atI
  rw [hx.length, h1]
  exact h3
/-- a written text's sign -/
theorem ix_s {z : Str} {i : Int} {c : Nat} (hz : z.length ≤ sizeLine) (h : atI z.cps.toList i = some c) (k : Φ (.d (.str ⟨#[c]⟩)) M) : GIx X (.d (.str z)) (.d (.int i)) M Φ := fun B H v w ok q1 q2 =>
  .inr (.inr ⟨z, i, c, str_of q1, int_of q2, hz, h, post_same ok (.d (.str _)) k⟩)
end
/-! existentials, by lemmas (what is found by the side goals) -/
section
variable {Pr : Prop}
theorem ex_set {r : Rv} {i : Nat} {ρ ρ' : List Rv} {Q : List Rv → Prop} (s : SetAt r i ρ ρ') (h : Q ρ') : ∃ ρ', SetAt r i ρ ρ' ∧ Q ρ' := ⟨ρ', s, h⟩
theorem ex_par {r q : Rv} {i j : Nat} {ρ ρ1 ρ2 : List Rv} {Q : List Rv → Prop} (s : SetAt r i ρ ρ1) (t : SetAt q j ρ1 ρ2) (h : Q ρ2) : ∃ r' q' ρ1 ρ2, [r, q] = [r', q'] ∧ SetAt r' i ρ ρ1 ∧ SetAt q' j ρ1 ρ2 ∧ Q ρ2 := ⟨r, q, ρ1, ρ2, rfl, s, t, h⟩
theorem ex_ix {r : Rv} {a : Addr} {k : Int} {rs qs : List Rv} {M M4 : Mem} {Q : Mem → Prop} (c : Cell a (Is rs) (Is qs) M M4) (s : IxSet r k rs qs) (h : Q M4) : ∃ p k' rs qs M4, Rv.cell a = .cell p ∧ Rv.d (.int k) = .d (.int k') ∧ Cell p (Is rs) (Is qs) M M4 ∧ IxSet r k' rs qs ∧ Q M4 := ⟨a, k, rs, qs, M4, rfl, rfl, c, s, h⟩
theorem ex_data {rs : List Rv} {ds : List PyData} {Q : List PyData → Prop} (c : DataL rs ds) (z : ds.length ≤ sizeLine) (h : Q ds) : ∃ ds, DataL rs ds ∧ ds.length ≤ sizeLine ∧ Q ds := ⟨ds, c, z, h⟩
theorem ex_cell {a : Addr} {P : List Rv → Prop} {M : Mem} {Q : Addr → Prop} (c : Has a P M) (h : Q a) : ∃ p P, Rv.cell a = .cell p ∧ Has p P M ∧ Q p := ⟨a, P, rfl, c, h⟩
theorem ex_app {a : Addr} {rs : List Rv} {r : Rv} {M M3 : Mem} {Q : Mem → Prop} (c : Cell a (Is rs) (Is (rs ++ [r])) M M3) (z : rs.length < sizeLine) (h : Q M3) : ∃ rs M3, Cell a (Is rs) (Is (rs ++ [r])) M M3 ∧ rs.length < sizeLine ∧ Q M3 := ⟨rs, M3, c, z, h⟩
theorem ex_bool {c : Bool} {Q : Bool → Prop} (h : Q c) : ∃ c', Rv.d (.bool c) = .d (.bool c') ∧ Q c' := ⟨c, rfl, h⟩
theorem ex_int {c : Int} {Q : Int → Prop} (h : Q c) : ∃ c', Rv.d (.int c) = .d (.int c') ∧ Q c' := ⟨c, rfl, h⟩
theorem ex_list {c : List PyData} {Q : List PyData → Prop} (h : Q c) : ∃ c', Rv.d (.list c) = .d (.list c') ∧ Q c' := ⟨c, rfl, h⟩
theorem ex_tuple {c : List PyData} {Q : List PyData → Prop} (h : Q c) : ∃ c', Rv.d (.tuple c) = .d (.tuple c') ∧ Q c' := ⟨c, rfl, h⟩
theorem ex_rng {j : Int} {Q : Int → Prop} (h1 : -(2 ^ 62) ≤ j) (h2 : j < 2 ^ 62) (h : Q j) : ∃ j', [Rv.d (.int j)] = [.d (.int j')] ∧ -(2 ^ 62) ≤ j' ∧ j' < 2 ^ 62 ∧ Q j' := ⟨j, rfl, h1, h2, h⟩
end
/-- lists of ints, pairs -/
abbrev dI (xs : List Int) : PyData := .list (xs.map .int)
abbrev dP (a : Int) (xs : List Int) : PyData := .tuple [.int a, dI xs]
end Dl

set_option Elab.async false
set_option linter.all false
set_option maxRecDepth 100000
set_option maxHeartbeats 4000000
namespace Dl
open PySem PySem.Spec PyProof.Rows L2
section
variable {X : Cx} {N : List Str} {sc : Scope} {ρ : List Rv} {M : Mem} {Φ : Pst} {Ξ : Xi} {nx : List Rv → Mem → Prop} {rt : Pst} {bk ct : List Rv → Mem → Prop} {xx : Xi}
/-- a flag: lists written behind return may change -/
def OwnRet (X : Cx) : Prop := True
theorem sRetO {es : List Expr} {p pos : Pos} (f : OwnRet X) (h : GA X es ρ M (fun rs M1 => rs.length ≤ sizeLine ∧ ∀ q, ∃ M2, Le ((q, Is rs) :: M1) M2 ∧ rt (.cell q) M2) xx) : GS X (.Return (some (.List es p)) pos) ρ M ⟨nx, rt, bk, ct, xx⟩ := sRet (ge_own h)
/-- a name whose list may change -/
inductive MuAt : Nat → List Rv → Prop
  | m {ρ : List Rv} : MuAt 0 (.mu :: ρ)
  | c {a : Addr} {ρ : List Rv} : MuAt 0 (.cell a :: ρ)
  | s {i : Nat} {x : Rv} {ρ : List Rv} : MuAt i ρ → MuAt (i + 1) (x :: ρ)
theorem sSetO {i : Nat} {x : Str} {es : List Expr} {p pos pos' : Pos} (hv : Var X i x) (nd : X.N.Nodup) (m : MuAt i ρ) (h : GA X es ρ M (fun rs M1 => rs.length ≤ sizeLine ∧ ∀ q, ∃ ρ', SetAt (.cell q) i ρ ρ' ∧ nx ρ' ((q, Is rs) :: M1)) xx) :
    GS X (.Assign [.Name x pos'] (.List es p) pos) ρ M ⟨nx, rt, bk, ct, xx⟩ := sSet hv nd rfl (ge_own h)
theorem sParN2 {i j : Nat} {x y : Str} {a : Expr} {px py pt pt2 pl pos : Pos} {kt k2 : Nat} (hx : Var X i x) (hy : Var X j y) (hc : X.calm = true) (nd : X.N.Nodup) (hij : i ≠ j) (lx : X.env.scope.names.lookup x = some .local) (ly : X.env.scope.names.lookup y = some .local)
    (hs : swappedStores [.Tuple [.Name x px, .Name y py] kt pt] (.Tuple [a, .List [] pl] k2 pt2) X.env = pure (some [x, y])) (hw : swapsWithSole [.Tuple [.Name x px, .Name y py] kt pt] (.Tuple [a, .List [] pl] k2 pt2) pos.line X.env = pure false) (hst : starEach [a, .List [] pl] X.env = (false, eval a X.env) :: starEach [.List [] pl] X.env)
    (h : GE X a ρ M (fun r M1 => ∀ p, ∃ ρ1, SetAt r i ρ ρ1 ∧ ∃ ρ2, SetAt (.cell p) j ρ1 ρ2 ∧ nx ρ2 ((p, Is []) :: M1)) xx) : GS X (.Assign [.Tuple [.Name x px, .Name y py] kt pt] (.Tuple [a, .List [] pl] k2 pt2) pos) ρ M ⟨nx, rt, bk, ct, xx⟩ :=
  sPar hx hy hc nd hij lx ly hs hw (ga_cons hst (ge_mono h fun r M1 k => ga_cons rfl (ge_own (ga_nil ⟨Nat.zero_le _, fun p => ga_nil (let ⟨ρ1, s1, ρ2, s2, k⟩ := k p; ⟨r, .cell p, ρ1, ρ2, rfl, s1, s2, k⟩)⟩))))
theorem sParN1 {i j : Nat} {x y : Str} {a : Expr} {px py pt pt2 pl pos : Pos} {kt k2 : Nat} (hx : Var X i x) (hy : Var X j y) (hc : X.calm = true) (nd : X.N.Nodup) (hij : i ≠ j) (lx : X.env.scope.names.lookup x = some .local) (ly : X.env.scope.names.lookup y = some .local)
    (hs : swappedStores [.Tuple [.Name x px, .Name y py] kt pt] (.Tuple [.List [] pl, a] k2 pt2) X.env = pure (some [x, y])) (hw : swapsWithSole [.Tuple [.Name x px, .Name y py] kt pt] (.Tuple [.List [] pl, a] k2 pt2) pos.line X.env = pure false) (hst : starEach [a] X.env = [(false, eval a X.env)])
    (h : ∀ p, GE X a ρ ((p, Is []) :: M) (fun r M1 => ∃ ρ1, SetAt (.cell p) i ρ ρ1 ∧ ∃ ρ2, SetAt r j ρ1 ρ2 ∧ nx ρ2 M1) xx) : GS X (.Assign [.Tuple [.Name x px, .Name y py] kt pt] (.Tuple [.List [] pl, a] k2 pt2) pos) ρ M ⟨nx, rt, bk, ct, xx⟩ :=
  sPar hx hy hc nd hij lx ly hs hw (ga_cons rfl (ge_own (ga_nil ⟨Nat.zero_le _, fun p => ga_cons hst (ge_mono (h p) fun r M1 ⟨ρ1, s1, ρ2, s2, k⟩ => ga_nil ⟨.cell p, r, ρ1, ρ2, rfl, s1, s2, k⟩)⟩)))
/-- three names, the first one a list that may change -/
theorem sPar3N {i j l : Nat} {x y z : Str} {b c : Expr} {px py pz pt pt2 pl pos : Pos} {kt k2 : Nat} (hx : Var X i x) (hy : Var X j y) (hz : Var X l z) (hc : X.calm = true) (nd : X.N.Nodup) (hij : i ≠ j) (hil : i ≠ l) (hjl : j ≠ l)
    (lx : X.env.scope.names.lookup x = some .local) (ly : X.env.scope.names.lookup y = some .local) (lz : X.env.scope.names.lookup z = some .local)
    (hs : swappedStores [.Tuple [.Name x px, .Name y py, .Name z pz] kt pt] (.Tuple [.List [] pl, b, c] k2 pt2) X.env = pure (some [x, y, z])) (hw : swapsWithSole [.Tuple [.Name x px, .Name y py, .Name z pz] kt pt] (.Tuple [.List [] pl, b, c] k2 pt2) pos.line X.env = pure false)
    (hst : starEach [b, c] X.env = (false, eval b X.env) :: starEach [c] X.env) (hst2 : starEach [c] X.env = [(false, eval c X.env)])
    (h : ∀ p, GE X b ρ ((p, Is []) :: M) (fun r M1 => GE X c ρ M1 (fun q M2 => ∃ ρ1, SetAt (.cell p) i ρ ρ1 ∧ ∃ ρ2, SetAt r j ρ1 ρ2 ∧ ∃ ρ3, SetAt q l ρ2 ρ3 ∧ nx ρ3 M2) xx) xx) :
    GS X (.Assign [.Tuple [.Name x px, .Name y py, .Name z pz] kt pt] (.Tuple [.List [] pl, b, c] k2 pt2) pos) ρ M ⟨nx, rt, bk, ct, xx⟩ := fun B H σ ok env tk => by
  have hh : GA X [.List [] pl, b, c] ρ M (fun rs M1 => ∃ p r q, rs = [.cell p, r, q] ∧ ∃ ρ1, SetAt (.cell p) i ρ ρ1 ∧ ∃ ρ2, SetAt r j ρ1 ρ2 ∧ ∃ ρ3, SetAt q l ρ2 ρ3 ∧ nx ρ3 M1) xx :=
    ga_cons rfl (ge_own (ga_nil ⟨Nat.zero_le _, fun p => ga_cons hst (ge_mono (h p) fun r M1 k => ga_cons hst2 (ge_mono k fun q M2 k => ga_nil ⟨p, r, q, rfl, k⟩))⟩))
  refine sS_of (ps_par3 hc nd hx.n hy.n hz.n hij hil hjl lx ly lz pa_S hs hw) (args hh ok env tk fun vs H1 B1 M1 rs o1 f1 q1 ⟨p, r, q, e, ρ1, s1, ρ2, s2, ρ3, s3, k⟩ => ?_)
  subst e
  cases q1 with
  | cons q1 t => cases t with
    | cons q2 t => cases t with
      | cons q3 t =>
        cases t
        refine ⟨_, _, _, rfl, B1, M1, ρ3, o1, f1, ?_, k⟩
        rw [← s3.eq, ← s2.eq, ← s1.eq]
        exact env_set (.some q3) l (env_set (.some q2) j (env_set (.some q1) i (env_mono f1.ex env)))
/-! facts of the def's scope -/
theorem swap_scope {ts : List Expr} {v : Expr} {e1 e2 : Env} (h : e1.scope = e2.scope) : swappedStores ts v e1 = swappedStores ts v e2 := by
  unfold swappedStores Env.kindOf Env.blockKind
  rw [h]
abbrev dumE (sc : Scope) : Env := { scope := sc, globals := 0, locals := 0, cells := [] }
theorem Cxt.swap (cx : Cxt X N sc) {ts : List Expr} {v : Expr} {r : Sem (Option (List Str))} (h : swappedStores ts v (dumE sc) = r) : swappedStores ts v X.env = r := by
  rw [swap_scope (e2 := (dumE sc)) cx.sc]
  exact h
theorem Cxt.loc (cx : Cxt X N sc) {x : Str} (h : sc.names.lookup x = some .local) : X.env.scope.names.lookup x = some .local := by
  rw [cx.sc]; exact h
theorem Cxt.blk (cx : Cxt X N sc) {scope : Scope} {own : List (Str × Nat)} (h : blkC N sc scope own = true) : BlkOk X.N X.env.scope scope own := by
  rw [cx.hN, cx.sc]; exact blkOk_by h
theorem Cxt.sw (cx : Cxt X N sc) {elt : Expr} {gs : List Comprehension} {scope : Scope} {pos py : Pos} {y : Str} {l : Nat} (hk : sc.kind = .function) (hy : sc.names.lookup y = some .local) (hl : (py.line == pos.line) = true)
    (ha : (scope.names.any fun (n, k) => n == y && (k == .local || k == .cell)) = false) : swapsWith (.ListComp elt gs scope pos) (some (.Name y py)) l X.env = pure true := sw_true (by rw [cx.sc]; exact hk) (by rw [cx.sc]; exact hy) hl ha
/-! items at open places -/
theorem at_map {α β : Type} {xs : List α} {g : α → β} {k : Int} (h0 : 0 ≤ k) (h1 : k < xs.length) : atI (xs.map g) k = some (g (xs[k.toNat]'(by omega))) := by
  unfold atI ixN
  rw [if_pos h0, List.length_map, if_pos h1]
  simp
  exact ⟨_, List.getElem?_eq_getElem (by omega), rfl⟩
theorem at_lit {α : Type} {xs : List α} {k : Int} (h0 : 0 ≤ k) (h1 : k < xs.length) : atI xs k = some (xs[k.toNat]'(by omega)) := by
  unfold atI ixN
  rw [if_pos h0, if_pos h1]
  simp
/-- an item at an open place of a written list: whatever holds for each of them -/
theorem ix_any {ds : List PyData} {i : Int} (h0 : 0 ≤ i) (h1 : i < ds.length) (k : ∀ d ∈ ds, Φ (.d d) M) : GIx X (.d (.list ds)) (.d (.int i)) M Φ := ix_l (at_lit h0 h1) (k _ (List.getElem_mem _))
theorem gc_lenI {xs : List Int} (h : Φ (.d (.int xs.length)) M) : GC X (.builtin "len") [.d (dI xs)] M Φ := gc_lenL (by rw [List.length_map]; exact h)
theorem ix_dI {xs : List Int} {i : Int} (h0 : 0 ≤ i) (h1 : i < xs.length) (k : ∀ v, xs[i.toNat]? = some v → Φ (.d (.int v)) M) : GIx X (.d (dI xs)) (.d (.int i)) M Φ :=
  ix_l (at_map h0 h1) (k _ (List.getElem?_eq_getElem (by omega)))
theorem ix_dIlast {xs : List Int} {v : Int} (h : xs.getLast? = some v) (k : Φ (.d (.int v)) M) : GIx X (.d (dI xs)) (.d (.int (-1))) M Φ := by
  obtain ⟨ys, rfl⟩ : ∃ ys, xs = ys ++ [v] := by
    cases xs with
    | nil => simp at h
    | cons a t => exact ⟨(a :: t).dropLast, by rw [List.getLast?_eq_some_getLast (by simp)] at h; cases h; exact (List.dropLast_concat_getLast (by simp)).symm⟩
  refine ix_l (d := .int v) ?_ k
  rw [List.map_append]
  exact atI_last _ _
/-- a written list of ints of one kind -/
inductive MenuP (P : Int → Prop) : List PyData → Prop
  | nil : MenuP P []
  | cons {i : Int} {ds : List PyData} : P i → MenuP P ds → MenuP P (.int i :: ds)
theorem MenuP.mem {P : Int → Prop} {ds : List PyData} (h : MenuP P ds) : ∀ d ∈ ds, ∃ i, d = .int i ∧ P i := by
  induction h with
  | nil => intro d hd; cases hd
  | cons hi _ ih => intro d hd; rcases List.mem_cons.mp hd with rfl | hd; exact ⟨_, rfl, hi⟩; exact ih d hd
theorem ix_menu {ds : List PyData} {i : Int} (P : Int → Prop) (h0 : 0 ≤ i) (h1 : i < ds.length) (hP : MenuP P ds) (k : ∀ v, P v → Φ (.d (.int v)) M) : GIx X (.d (.list ds)) (.d (.int i)) M Φ :=
  ix_any h0 h1 fun d hd => by obtain ⟨v, rfl, hv⟩ := hP.mem d hd; exact k v hv
abbrev rI (xs : List Int) : List Rv := xs.map fun i => .d (.int i)
theorem rI_d (xs : List Int) : (xs.map PyData.int).map Rv.d = rI xs := by rw [List.map_map]; rfl
theorem rI_app (xs ys : List Int) : rI (xs ++ ys) = rI xs ++ rI ys := List.map_append
theorem gi_tupD {tg : Expr} {es : List Expr} {k : Nat} {pos : Pos} {Θ : List Rv → Mem → Prop} (h : GE X (.Tuple es k pos) ρ M (fun r M1 => ∃ ds, r = .d (.tuple ds) ∧ Θ (ds.map Rv.d) M1) Ξ) : GI X tg (.Tuple es k pos) ρ M Θ Ξ := gi_tup h
theorem for_ints {tg : Expr} {body : List Stmt} {xs : List Int} (Iv : List Int → List Rv → Mem → Prop) (h0 : Iv [] ρ M)
    (hs : ∀ pre x post ρ' M', xs = pre ++ x :: post → Iv pre ρ' M' → GG X tg (.d (.int x)) ρ' M' (fun ρ2 M2 => GSs X body ρ2 M2 ⟨Iv (pre ++ [x]), rt, nx, Iv (pre ++ [x]), xx⟩) [])
    (hd : ∀ ρ' M', Iv xs ρ' M' → nx ρ' M') : ForD X tg body ⟨nx, rt, bk, ct, xx⟩ ((xs.map PyData.int).map Rv.d) ρ M := by
  rw [rI_d]
  exact for_map Iv h0 hs hd
theorem isi_none_int (h : Φ (.d (.bool false)) M) : GC X (.builtin "isinstance") [.d .none, .raw (.ty "int")] M Φ := gc_isi (b := false) (show kitB "NoneType" "int" = some false by decide +kernel) h
theorem isi_none_bool (h : Φ (.d (.bool false)) M) : GC X (.builtin "isinstance") [.d .none, .raw (.ty "bool")] M Φ := gc_isi (b := false) (show kitB "NoneType" "bool" = some false by decide +kernel) h
theorem isi_none_list (h : Φ (.d (.bool false)) M) : GC X (.builtin "isinstance") [.d .none, .raw (.ty "list")] M Φ := gc_isi (b := false) (show kitB "NoneType" "list" = some false by decide +kernel) h
theorem isi_none_tuple (h : Φ (.d (.bool false)) M) : GC X (.builtin "isinstance") [.d .none, .raw (.ty "tuple")] M Φ := gc_isi (b := false) (show kitB "NoneType" "tuple" = some false by decide +kernel) h
theorem isi_none_str (h : Φ (.d (.bool false)) M) : GC X (.builtin "isinstance") [.d .none, .raw (.ty "str")] M Φ := gc_isi (b := false) (show kitB "NoneType" "str" = some false by decide +kernel) h
theorem isi_bool_int {b : Bool} (h : Φ (.d (.bool true)) M) : GC X (.builtin "isinstance") [.d (.bool b), .raw (.ty "int")] M Φ := gc_isi (b := true) (show kitB "bool" "int" = some true by decide +kernel) h
theorem isi_bool_bool {b : Bool} (h : Φ (.d (.bool true)) M) : GC X (.builtin "isinstance") [.d (.bool b), .raw (.ty "bool")] M Φ := gc_isi (b := true) (show kitB "bool" "bool" = some true by decide +kernel) h
theorem isi_bool_list {b : Bool} (h : Φ (.d (.bool false)) M) : GC X (.builtin "isinstance") [.d (.bool b), .raw (.ty "list")] M Φ := gc_isi (b := false) (show kitB "bool" "list" = some false by decide +kernel) h
theorem isi_bool_tuple {b : Bool} (h : Φ (.d (.bool false)) M) : GC X (.builtin "isinstance") [.d (.bool b), .raw (.ty "tuple")] M Φ := gc_isi (b := false) (show kitB "bool" "tuple" = some false by decide +kernel) h
theorem isi_bool_str {b : Bool} (h : Φ (.d (.bool false)) M) : GC X (.builtin "isinstance") [.d (.bool b), .raw (.ty "str")] M Φ := gc_isi (b := false) (show kitB "bool" "str" = some false by decide +kernel) h
theorem isi_int_int {i : Int} (h : Φ (.d (.bool true)) M) : GC X (.builtin "isinstance") [.d (.int i), .raw (.ty "int")] M Φ := gc_isi (b := true) (show kitB "int" "int" = some true by decide +kernel) h
theorem isi_int_bool {i : Int} (h : Φ (.d (.bool false)) M) : GC X (.builtin "isinstance") [.d (.int i), .raw (.ty "bool")] M Φ := gc_isi (b := false) (show kitB "int" "bool" = some false by decide +kernel) h
theorem isi_int_list {i : Int} (h : Φ (.d (.bool false)) M) : GC X (.builtin "isinstance") [.d (.int i), .raw (.ty "list")] M Φ := gc_isi (b := false) (show kitB "int" "list" = some false by decide +kernel) h
theorem isi_int_tuple {i : Int} (h : Φ (.d (.bool false)) M) : GC X (.builtin "isinstance") [.d (.int i), .raw (.ty "tuple")] M Φ := gc_isi (b := false) (show kitB "int" "tuple" = some false by decide +kernel) h
theorem isi_int_str {i : Int} (h : Φ (.d (.bool false)) M) : GC X (.builtin "isinstance") [.d (.int i), .raw (.ty "str")] M Φ := gc_isi (b := false) (show kitB "int" "str" = some false by decide +kernel) h
theorem isi_str_int {s : Str} (h : Φ (.d (.bool false)) M) : GC X (.builtin "isinstance") [.d (.str s), .raw (.ty "int")] M Φ := gc_isi (b := false) (show kitB "str" "int" = some false by decide +kernel) h
theorem isi_str_bool {s : Str} (h : Φ (.d (.bool false)) M) : GC X (.builtin "isinstance") [.d (.str s), .raw (.ty "bool")] M Φ := gc_isi (b := false) (show kitB "str" "bool" = some false by decide +kernel) h
theorem isi_str_list {s : Str} (h : Φ (.d (.bool false)) M) : GC X (.builtin "isinstance") [.d (.str s), .raw (.ty "list")] M Φ := gc_isi (b := false) (show kitB "str" "list" = some false by decide +kernel) h
theorem isi_str_tuple {s : Str} (h : Φ (.d (.bool false)) M) : GC X (.builtin "isinstance") [.d (.str s), .raw (.ty "tuple")] M Φ := gc_isi (b := false) (show kitB "str" "tuple" = some false by decide +kernel) h
theorem isi_str_str {s : Str} (h : Φ (.d (.bool true)) M) : GC X (.builtin "isinstance") [.d (.str s), .raw (.ty "str")] M Φ := gc_isi (b := true) (show kitB "str" "str" = some true by decide +kernel) h
theorem isi_list_int {l : List PyData} (h : Φ (.d (.bool false)) M) : GC X (.builtin "isinstance") [.d (.list l), .raw (.ty "int")] M Φ := gc_isi (b := false) (show kitB "list" "int" = some false by decide +kernel) h
theorem isi_list_bool {l : List PyData} (h : Φ (.d (.bool false)) M) : GC X (.builtin "isinstance") [.d (.list l), .raw (.ty "bool")] M Φ := gc_isi (b := false) (show kitB "list" "bool" = some false by decide +kernel) h
theorem isi_list_list {l : List PyData} (h : Φ (.d (.bool true)) M) : GC X (.builtin "isinstance") [.d (.list l), .raw (.ty "list")] M Φ := gc_isi (b := true) (show kitB "list" "list" = some true by decide +kernel) h
theorem isi_list_tuple {l : List PyData} (h : Φ (.d (.bool false)) M) : GC X (.builtin "isinstance") [.d (.list l), .raw (.ty "tuple")] M Φ := gc_isi (b := false) (show kitB "list" "tuple" = some false by decide +kernel) h
theorem isi_list_str {l : List PyData} (h : Φ (.d (.bool false)) M) : GC X (.builtin "isinstance") [.d (.list l), .raw (.ty "str")] M Φ := gc_isi (b := false) (show kitB "list" "str" = some false by decide +kernel) h
theorem isi_tuple_int {l : List PyData} (h : Φ (.d (.bool false)) M) : GC X (.builtin "isinstance") [.d (.tuple l), .raw (.ty "int")] M Φ := gc_isi (b := false) (show kitB "tuple" "int" = some false by decide +kernel) h
theorem isi_tuple_bool {l : List PyData} (h : Φ (.d (.bool false)) M) : GC X (.builtin "isinstance") [.d (.tuple l), .raw (.ty "bool")] M Φ := gc_isi (b := false) (show kitB "tuple" "bool" = some false by decide +kernel) h
theorem isi_tuple_list {l : List PyData} (h : Φ (.d (.bool false)) M) : GC X (.builtin "isinstance") [.d (.tuple l), .raw (.ty "list")] M Φ := gc_isi (b := false) (show kitB "tuple" "list" = some false by decide +kernel) h
theorem isi_tuple_tuple {l : List PyData} (h : Φ (.d (.bool true)) M) : GC X (.builtin "isinstance") [.d (.tuple l), .raw (.ty "tuple")] M Φ := gc_isi (b := true) (show kitB "tuple" "tuple" = some true by decide +kernel) h
theorem isi_tuple_str {l : List PyData} (h : Φ (.d (.bool false)) M) : GC X (.builtin "isinstance") [.d (.tuple l), .raw (.ty "str")] M Φ := gc_isi (b := false) (show kitB "tuple" "str" = some false by decide +kernel) h
theorem isi_dict_int {l : List (PyData × PyData)} (h : Φ (.d (.bool false)) M) : GC X (.builtin "isinstance") [.d (.dict l), .raw (.ty "int")] M Φ := gc_isi (b := false) (show kitB "dict" "int" = some false by decide +kernel) h
theorem isi_dict_bool {l : List (PyData × PyData)} (h : Φ (.d (.bool false)) M) : GC X (.builtin "isinstance") [.d (.dict l), .raw (.ty "bool")] M Φ := gc_isi (b := false) (show kitB "dict" "bool" = some false by decide +kernel) h
theorem isi_dict_list {l : List (PyData × PyData)} (h : Φ (.d (.bool false)) M) : GC X (.builtin "isinstance") [.d (.dict l), .raw (.ty "list")] M Φ := gc_isi (b := false) (show kitB "dict" "list" = some false by decide +kernel) h
theorem isi_dict_tuple {l : List (PyData × PyData)} (h : Φ (.d (.bool false)) M) : GC X (.builtin "isinstance") [.d (.dict l), .raw (.ty "tuple")] M Φ := gc_isi (b := false) (show kitB "dict" "tuple" = some false by decide +kernel) h
theorem isi_dict_str {l : List (PyData × PyData)} (h : Φ (.d (.bool false)) M) : GC X (.builtin "isinstance") [.d (.dict l), .raw (.ty "str")] M Φ := gc_isi (b := false) (show kitB "dict" "str" = some false by decide +kernel) h
theorem ge_gint {x : Str} {i : Int} {pos : Pos} (hm : Glo X x (.int i)) (hg : Gl X x) (h : Φ (.d (.int i)) M) : GE X (.Name x pos) ρ M Φ Ξ := ge_glob hm (fun _ _ => .int i) hg h
theorem ex_zip {xs ys : List PyData} {Q : List PyData → List PyData → Prop} (h : Q xs ys) : ∃ a b, [Rv.d (.list xs), Rv.d (.list ys)] = [.d (.list a), .d (.list b)] ∧ Q a b := ⟨xs, ys, rfl, h⟩
theorem zip_ints (xs ys : List Int) : (((xs.map PyData.int).zip (ys.map PyData.int)).map fun p => Rv.d (.tuple [p.1, p.2])) = (xs.zip ys).map fun p => .d (.tuple [.int p.1, .int p.2]) := by
  rw [List.zip_map, List.map_map]; rfl
theorem gt_chain {a b c : Expr} {op op' : CmpOp} {pos : Pos} {Ψ : Bool → Mem → Prop} (hm : lastMarks [op, op'] [b, c] = false)
    (h : GE X a ρ M (fun x M1 => GE X b ρ M1 (fun y M2 => G2 X (compareOp op) x y M2 fun r M3 => ∃ k, r = .d (.bool k) ∧ (k = true → GE X c ρ M3 (fun z M4 => G2 X (compareOp op') y z M4 fun r M5 => ∃ k, r = .d (.bool k) ∧ Ψ k M5) Ξ) ∧ (k = false → Ψ false M3)) Ξ) Ξ) :
    GT X (.Compare a [op, op'] [b, c] pos) ρ M Ψ Ξ := fun B H σ ok env tk =>
  tS_of (pt_chain op_S op_S pe_S pe_S pe_S hm) (one h ok env tk fun v H1 B1 M1 r o1 f1 q1 hb => one hb o1 (env_mono f1.ex env) (tk_after tk f1) fun w H2 B2 M2 y o2 f2 q2 h2 =>
    oS_mono (h2 B2 H2 v w o2 (rv_mono f2.ex q1) q2) fun z H3 ⟨B3, M3, r3, o3, f3, q3, k, e, k1, k2⟩ => by
      subst e
      have f : Fr B H M B3 H3 M3 := (f1.trans f2).trans f3
      refine ⟨k, bool_of q3, ?_⟩
      cases k with
      | true => exact one (k1 rfl) o3 (env_mono f.ex env) (tk_after tk f) fun w4 H4 B4 M4 r4 o4 f4 q4 h4 => oS_mono (h4 B4 H4 w w4 o4 (rv_mono (f3.trans f4).ex q2) q4) fun z5 H5 ⟨B5, M5, r5, o5, f5, q5, k5, e5, kk⟩ => ⟨k5, by (subst e5; exact bool_of q5), B5, M5, o5, (f.trans f4).trans f5, kk⟩
      | false => exact ⟨false, rfl, B3, M3, o3, f, k2 rfl⟩)
/-! in a comprehension's block -/
section
variable {s : Shared} {H : Hp} {scp : Scope} {ce : Env} {fp : List Addr}
theorem bNm {i : Nat} {x : Str} (h : Nm X i x) : Nm (X.blk s H scp ce fp) i x := h
theorem bNd (h : X.N.Nodup) : (X.blk s H scp ce fp).N.Nodup := h
theorem bCalm (h : X.calm = true) : (X.blk s H scp ce fp).calm = true := h
theorem bBi {x : Str} {v : Value} (h : Bi X x v) : Bi (X.blk s H scp ce fp) x v := ⟨h.m, h.b, h.n, h.d⟩
theorem bGlo {x : Str} {v : V} (h : Glo X x v) : Glo (X.blk s H scp ce fp) x v := ⟨h.ex, h.d⟩
theorem bDef {x : Str} {k : Nat} {ps : List Str} {ord : List (List Str)} {pd : Prom} (h : Def X x k ps ord pd) : Def (X.blk s H scp ce fp) x k ps ord pd := ⟨h.ex, h.d⟩
theorem bRoom {k : Nat} (h : Room k X.A) : Room k (X.blk s H scp ce fp).A := h
theorem bGu (h : X.A.guards = some []) : (X.blk s H scp ce fp).A.guards = some [] := h
theorem bMg {x : Str} (h : X.mg x = none) : (X.blk s H scp ce fp).mg x = none := h
end
/-! targets: two names; names of a comprehension -/
theorem gg_two {i j : Nat} {x y : Str} {p1 p2 pos : Pos} {kk : Nat} {a b : PyData} {Ψ : List Rv → Mem → Prop} (hx : Var X i x) (hy : Var X j y) (nd : X.N.Nodup) (hc : X.calm = true) {ρ1 ρ2 : List Rv} (s : SetAt (.d a) i ρ ρ1) (t : SetAt (.d b) j ρ1 ρ2)
    (h : Ψ ρ2 M) : GG X (.Tuple [.Name x p1, .Name y p2] kk pos) (.d (.tuple [a, b])) ρ M Ψ [] :=
  gg_tup hc (.inr ⟨[a, b], rfl, rfl⟩) rfl rfl (ggs_cons nd hx.n hx.l (.inl hx.f) (.inl rfl) rfl (ggs_cons nd hy.n hy.l (.inl hy.f) (.inl rfl) rfl (ggs_nil (by rw [s.eq, t.eq]; exact h))))
theorem gNameC {i : Nat} {x : Str} {pos : Pos} {r : Rv} {Ψ : List Rv → Mem → Prop} {vs : List Nat} (hN : Nm X i x) (nd : X.N.Nodup) (hl : X.env.scope.names.lookup x = some .local) (hvs : i ∈ vs) {ρ' : List Rv} (s : SetAt r i ρ ρ')
    (h : Ψ ρ' M) : GG X (.Name x pos) r ρ M Ψ vs := gg_name nd hN (.inl hl) (.inr hl) (.inr hvs) (by rw [s.eq]; exact h)
theorem gg_twoC {i j : Nat} {x y : Str} {p1 p2 pos : Pos} {kk : Nat} {a b : PyData} {Ψ : List Rv → Mem → Prop} {vs : List Nat} (hx : Nm X i x) (hy : Nm X j y) (nd : X.N.Nodup) (hc : X.calm = true) (lx : X.env.scope.names.lookup x = some .local) (ly : X.env.scope.names.lookup y = some .local) (mi : i ∈ vs) (mj : j ∈ vs) {ρ1 ρ2 : List Rv} (s : SetAt (.d a) i ρ ρ1) (t : SetAt (.d b) j ρ1 ρ2)
    (h : Ψ ρ2 M) : GG X (.Tuple [.Name x p1, .Name y p2] kk pos) (.d (.tuple [a, b])) ρ M Ψ vs :=
  gg_tup hc (.inr ⟨[a, b], rfl, rfl⟩) rfl rfl (ggs_cons nd hx (.inl lx) (.inr lx) (.inr mi) rfl (ggs_cons nd hy (.inl ly) (.inr ly) (.inr mj) rfl (ggs_nil (by rw [s.eq, t.eq]; exact h))))
/-! what kind a value is -/
def isI : PyData → Bool
  | .int _ => true
  | _ => false
def atL (d : PyData) (k : Int) : Bool := match d with
  | .int i => decide (k ≤ i)
  | _ => false
def inRg (d : PyData) (k m : Int) : Bool := match d with
  | .int i => decide (k ≤ i) && decide (i ≤ m)
  | _ => false
def isT : PyData → Bool
  | .int i => !decide (i = 0)
  | _ => false
def is2 : PyData → Bool
  | .tuple xs => decide ((xs.length : Int) = 2)
  | _ => false
def pdIsI : Prom := fun rs M Φ _ => ∃ d : PyData, rs = [.d d] ∧ Φ (.d (.bool (isI d))) M
def pdAtL : Prom := fun rs M Φ _ => ∃ (d : PyData) (k : Int), rs = [.d d, .d (.int k)] ∧ Φ (.d (.bool (atL d k))) M
def pdInR : Prom := fun rs M Φ _ => ∃ (d : PyData) (k m : Int), rs = [.d d, .d (.int k), .d (.int m)] ∧ Φ (.d (.bool (inRg d k m))) M
def pdIsT : Prom := fun rs M Φ _ => ∃ d : PyData, rs = [.d d] ∧ Φ (.d (.bool (isT d))) M
def pdIs2 : Prom := fun rs M Φ _ => ∃ d : PyData, rs = [.d d] ∧ Φ (.d (.bool (is2 d))) M
theorem use_isI {d : PyData} {Ξ : EV → Mem → Prop} (h : Φ (.d (.bool (isI d))) M) : pdIsI [.d d] M Φ Ξ := ⟨d, rfl, h⟩
theorem use_atL {d : PyData} {k : Int} {Ξ : EV → Mem → Prop} (h : Φ (.d (.bool (atL d k))) M) : pdAtL [.d d, .d (.int k)] M Φ Ξ := ⟨d, k, rfl, h⟩
theorem use_inRg {d : PyData} {k m : Int} {Ξ : EV → Mem → Prop} (h : Φ (.d (.bool (inRg d k m))) M) : pdInR [.d d, .d (.int k), .d (.int m)] M Φ Ξ := ⟨d, k, m, rfl, h⟩
theorem use_isT {d : PyData} {Ξ : EV → Mem → Prop} (h : Φ (.d (.bool (isT d))) M) : pdIsT [.d d] M Φ Ξ := ⟨d, rfl, h⟩
theorem use_is2 {d : PyData} {Ξ : EV → Mem → Prop} (h : Φ (.d (.bool (is2 d))) M) : pdIs2 [.d d] M Φ Ξ := ⟨d, rfl, h⟩
/-! the laws' draws -/
def Coil (k : Nat) : List Rv → Prop := fun rs => ∃ a b n : Int, rs = [.d (.int a), .d (.int b), .d (.int n)] ∧ 0 ≤ a ∧ 0 ≤ b ∧ b < 10 ^ 27 ∧ 0 ≤ n ∧ n ≤ k
theorem Coil.mono {j k : Nat} (h : j ≤ k) : ∀ rs, Coil j rs → Coil k rs := fun rs ⟨a, b, n, e, h1, h2, h3, h4, h5⟩ => ⟨a, b, n, e, h1, h2, h3, h4, by omega⟩
def pdDraw : Prom := fun rs M Φ _ => ∃ c b k M', rs = [.cell c, .d (.int b)] ∧ 0 < b ∧ b < 10 ^ 60 ∧ Cell c (Coil k) (Coil (k + 1)) M M' ∧ k ≤ 1000000 ∧ ∀ r : Int, 0 ≤ r → r < b → Φ (.d (.int r)) M'
theorem use_draw {c : Addr} {b : Int} {k : Nat} {M M' : Mem} {Φ : Pst} {Ξ : EV → Mem → Prop} (hc : Cell c (Coil k) (Coil (k + 1)) M M') (h0 : 0 < b) (h1 : b < 10 ^ 60) (hk : k ≤ 1000000) (h : ∀ r : Int, 0 ≤ r → r < b → Φ (.d (.int r)) M') : pdDraw [.cell c, .d (.int b)] M Φ Ξ := ⟨c, b, k, M', rfl, h0, h1, hc, hk, h⟩
def pdCoil : Prom := fun rs M Φ _ => ∃ (xs : List Int) (k : Int), rs = [.d (dI xs), .d (.int k)] ∧ 0 ≤ k ∧ k ≤ 100 ∧ ∀ p, Φ (.cell p) ((p, Coil 0) :: M)
/-! what stands behind the top, without a body's context -/
structure DefG (P : Program) (w : World) (K : Frg) (mg : Str → Option Value) (base : Heap) (x : Str) (k : Nat) (ps : List Str) (ord : List (List Str)) (pd : Prom) : Prop where
  ex : ∃ f fd, FnD P w K mg base k f fd ps pd ∧ mg x = some (.ref f) ∧ PySem.W.keepIn K (.ref f) = true ∧
    (∀ us : List Value, us.length = ps.length → bindArgs fd ⟨us, []⟩ = pure (ps.zip us)) ∧
    ∀ ks ∈ ord, ∀ ws : List Value, ws.length = ks.length → bindArgs fd ⟨[], ks.zip ws⟩ = pure (ps.zip (pick ks ps ws))
  d : (x == ("__debug__" : Str)) = false
theorem DefG.df {x : Str} {j k : Nat} {ps : List Str} {ord : List (List Str)} {pd : Prom} (h : DefG X.prog X.w X.K X.mg X.base x j ps ord pd) (hk : j ≤ k) : Def X x k ps ord pd := Def.mono ⟨h.ex, h.d⟩ hk
/-- a promise that asks no more -/
theorem FnD.imp {P : Program} {w : World} {K : Frg} {mg : Str → Option Value} {base : Heap} {k : Nat} {f : Addr} {fd : FuncData} {ps : List Str} {pd pd' : Prom} (F : FnD P w K mg base k f fd ps pd) (h : ∀ rs M Φ Ξ, pd' rs M Φ Ξ → pd rs M Φ Ξ) : FnD P w K mg base k f fd ps pd' :=
  ⟨fun rs M Φ Ξ q => F.len rs M Φ Ξ (h _ _ _ _ q), fun A outer s H ar us vs Q E hr hg he hb r ⟨B, M, rs, Φ, Ξ, o, a, p, q1, q2⟩ => F.run A outer s H ar us vs Q E hr hg he hb r ⟨B, M, rs, Φ, Ξ, o, a, h _ _ _ _ p, q1, q2⟩⟩
structure GloG (mg : Str → Option Value) (x : Str) (v : V) : Prop where
  ex : ∃ u, mg x = some u ∧ RelV v u
  d : (x == ("__debug__" : Str)) = false
theorem GloG.glo {x : Str} {v : V} (h : GloG X.mg x v) : Glo X x v := ⟨h.ex, h.d⟩
theorem Bi.mk' {x : Str} {v : Value} (m : X.mg x = none) (b : bootBuiltins x = some v) (n : x ≠ "__name__") (d : (x == ("__debug__" : Str)) = false) : Bi X x v := ⟨m, b, n, d⟩
end
end Dl

set_option maxRecDepth 100000
set_option linter.unusedVariables false
namespace Dl
open PySem PySem.Spec PyProof.Rows L2
/-- a value's truth -/
inductive Tru : Rv → Mem → Bool → Prop
  | b {M : Mem} {c : Bool} : Tru (.d (.bool c)) M c
  | n {M : Mem} : Tru (.d .none) M false
  | l {M : Mem} {ds : List PyData} : Tru (.d (.list ds)) M (!ds.isEmpty)
  | t {M : Mem} {ds : List PyData} : Tru (.d (.tuple ds)) M (!ds.isEmpty)
  | c {M : Mem} {p : Addr} {rs : List Rv} (h : Has p (Is rs) M) : Tru (.cell p) M (!rs.isEmpty)
variable {X : Cx} {ρ : List Rv} {M : Mem} {Φ : Pst} {Ξ : Xi}
theorem isEmpty_len {α β : Type} {xs : List α} {ys : List β} (h : xs.length = ys.length) : xs.isEmpty = ys.isEmpty := by
  cases xs <;> cases ys <;> simp_all
theorem gt_tru {e : Expr} {Ψ : Bool → Mem → Prop} (hw : ∀ whole, isTrue e X.env whole = (do let v ← whole; standAt e.pos; holding [v] (truthy v))) (ha : GE X e ρ M (fun r M1 => ∃ k, Tru r M1 k ∧ Ψ k M1) Ξ) : GT X e ρ M Ψ Ξ :=
  fun B H σ ok env tk => tS_of (pt_truth pe_S hw) (one ha ok env tk fun v H1 B1 M1 r o1 f1 q1 ⟨k, t, q⟩ => by
    refine ⟨k, ?_, B1, M1, o1, f1, q⟩
    cases t with
    | b => rw [bool_of q1]; rfl
    | n => cases q1 with | d q => cases q; rfl
    | l => cases q1 with | d q => cases q with | lst hs ha => exact .inl ⟨_, o1.ext.seq hs, by rw [isEmpty_len (DpAll.len ha)]⟩
    | t => cases q1 with | d q => cases q with | tup hs ha => exact .inr (.inl ⟨_, sq_mono o1.ext hs, by rw [isEmpty_len (DpAll.len ha)]⟩)
    | c h =>
      cases q1
      obtain ⟨_, xs, rs, hH, hx, hP⟩ := o1.mem _ h.mem
      exact .inl ⟨_, .of hH, by rw [isEmpty_len hx.length, show rs = _ from hP]⟩)
theorem ex_tB {c : Bool} {Q : Bool → Prop} (h : Q c) : ∃ k, Tru (.d (.bool c)) M k ∧ Q k := ⟨_, .b, h⟩
theorem ex_tN {Q : Bool → Prop} (h : Q false) : ∃ k, Tru (.d .none) M k ∧ Q k := ⟨_, .n, h⟩
theorem ex_tL {c : List PyData} {Q : Bool → Prop} (h : Q (!c.isEmpty)) : ∃ k, Tru (.d (.list c)) M k ∧ Q k := ⟨_, .l, h⟩
theorem ex_tT {c : List PyData} {Q : Bool → Prop} (h : Q (!c.isEmpty)) : ∃ k, Tru (.d (.tuple c)) M k ∧ Q k := ⟨_, .t, h⟩
theorem ex_tC {p : Addr} {rs : List Rv} {Q : Bool → Prop} (hc : Has p (Is rs) M) (h : Q (!rs.isEmpty)) : ∃ k, Tru (.cell p) M k ∧ Q k := ⟨_, .c hc, h⟩
theorem ge_neg {a : Expr} {pos : Pos} (ha : GE X a ρ M (fun r M1 => ∃ i, r = .d (.int i) ∧ Φ (.d (.int (-i))) M1) Ξ) : GE X (.UnaryOp .USub a pos) ρ M Φ Ξ :=
  fun B H σ ok env tk => eS_of (pe_un un_neg pe_S) (one ha ok env tk fun v H1 B1 M1 r o1 f1 q1 ⟨i, e, k⟩ => by
    subst e
    exact ⟨i, int_of q1, B1, M1, _, o1, f1, .d (.int _), k⟩)
theorem ix_cL {p : Addr} {rs : List Rv} {r : Rv} (hm : Has p (Is (rs ++ [r])) M) (k : Φ r M) : GIx X (.cell p) (.d (.int (-1))) M Φ := ix_c hm (atI_last _ _) k
theorem ix_last {ds : List PyData} {d : PyData} (h : ds.getLast? = some d) (k : Φ (.d d) M) : GIx X (.d (.list ds)) (.d (.int (-1))) M Φ := by
  obtain ⟨ys, rfl⟩ : ∃ ys, ds = ys ++ [d] := by
    cases ds with
    | nil => simp at h
    | cons a t => exact ⟨(a :: t).dropLast, by rw [List.getLast?_eq_some_getLast (by simp)] at h; cases h; exact (List.dropLast_concat_getLast (by simp)).symm⟩
  exact ix_l (atI_last _ _) k
theorem IxSet.last {r x : Rv} {xs : List Rv} : IxSet r (-1) (xs ++ [x]) (xs ++ [r]) := by
  have h : ixN (xs ++ [x]).length (-1) = some xs.length := by
    have hl : (xs ++ [x]).length = xs.length + 1 := by simp
    unfold ixN
    rw [hl]
    have e1 : ¬ (0 : Int) ≤ -1 := by decide
    simp
    try omega
  have := IxSet.any (r := r) h
  rw [show (xs ++ [x]).set xs.length r = xs ++ [r] by simp] at this
  exact this
end Dl

set_option maxRecDepth 100000
set_option linter.unusedVariables false
namespace Dl
open PySem PySem.Spec PyProof.Rows L2
/-! small data: what repr and == ask -/
structure Sh (w d : Nat) (x : PyData) : Prop where
  sw : x.showable = true
  cl : x.canLay0 = true
  dp : x.depth ≤ d
  ls : x.leavesShort 60 = true
  bk : x.bulk ≤ w
structure ShAll (w d : Nat) (xs : List PyData) : Prop where
  sw : PyData.showableAll xs = true
  cl : PyData.canLayAll0 xs = true
  dp : PyData.depthAll xs ≤ d
  ls : PyData.leavesShortAll 60 xs = true
  bk : PyData.bulkAll xs ≤ w
theorem Sh.int {i : Int} (h : i.natAbs < 10 ^ 50) : Sh 0 0 (.int i) := by
  refine ⟨?_, rfl, Nat.le_refl _, ?_, Nat.le_refl _⟩
  · have h1 : i.natAbs < 2 ^ 200 := Nat.lt_of_lt_of_le h (by decide)
    have := PySem.Flt.log2_lt_of (k := 200) (by decide) h1
    rw [PyData.showable, decide_eq_true_eq]
    omega
  · have := int_text_length_le10 (k := 50) (by decide) h
    rw [PyData.leavesShort, decide_eq_true_eq, PyData.shown_int]
    have e := PySem.ofString_length (toString i)
    omega
theorem Sh.bool {b : Bool} : Sh 0 0 (.bool b) := ⟨rfl, rfl, Nat.le_refl _, rfl, Nat.le_refl _⟩
theorem Sh.none : Sh 0 0 .none := ⟨rfl, rfl, Nat.le_refl _, rfl, Nat.le_refl _⟩
theorem ShAll.nil {d : Nat} : ShAll 0 d [] := ⟨rfl, rfl, Nat.zero_le _, rfl, Nat.le_refl _⟩
theorem ShAll.cons {w w' d : Nat} {x : PyData} {xs : List PyData} (h : Sh w d x) (t : ShAll w' d xs) : ShAll (w + 1 + w') d (x :: xs) :=
  ⟨by rw [PyData.showableAll, h.sw, t.sw]; rfl, by rw [PyData.canLayAll0, h.cl, t.cl]; rfl, by rw [PyData.depthAll]; exact Nat.max_le.mpr ⟨h.dp, t.dp⟩, by rw [PyData.leavesShortAll, h.ls, t.ls]; rfl, by rw [PyData.bulkAll]; have := h.bk; have := t.bk; omega⟩
theorem ShAll.cons2 {w w' d d' : Nat} {x : PyData} {xs : List PyData} (h : Sh w d x) (t : ShAll w' d' xs) : ShAll (w + 1 + w') (max d d') (x :: xs) :=
  .cons ⟨h.sw, h.cl, Nat.le_trans h.dp (Nat.le_max_left ..), h.ls, h.bk⟩ ⟨t.sw, t.cl, Nat.le_trans t.dp (Nat.le_max_right ..), t.ls, t.bk⟩
theorem ShAll.nil0 : ShAll 0 0 [] := .nil
theorem Sh.mono {w w' d d' : Nat} {x : PyData} (h : Sh w d x) (hw : w ≤ w') (hd : d ≤ d') : Sh w' d' x := ⟨h.sw, h.cl, Nat.le_trans h.dp hd, h.ls, Nat.le_trans h.bk hw⟩
theorem Sh.list {w d : Nat} {xs : List PyData} (h : ShAll w d xs) : Sh w (d + 1) (.list xs) := ⟨h.sw, h.cl, Nat.succ_le_succ h.dp, h.ls, h.bk⟩
theorem Sh.tuple {w d : Nat} {xs : List PyData} (h : ShAll w d xs) : Sh w (d + 1) (.tuple xs) := ⟨h.sw, h.cl, Nat.succ_le_succ h.dp, h.ls, h.bk⟩
theorem ShAll.ints : ∀ {xs : List Int}, (∀ x ∈ xs, x.natAbs < 10 ^ 50) → ShAll xs.length 0 (xs.map PyData.int)
  | [], _ => .nil
  | x :: xs, h => by
    have := ShAll.cons (Sh.int (h x (List.mem_cons_self ..))) (ShAll.ints (xs := xs) fun y hy => h y (List.mem_cons_of_mem _ hy))
    rw [List.length_cons, List.map_cons]
    rw [show xs.length + 1 = 0 + 1 + xs.length by omega]
    exact this
theorem Sh.dI {xs : List Int} (h : ∀ x ∈ xs, x.natAbs < 10 ^ 50) : Sh xs.length 1 (dI xs) := .list (.ints h)
theorem Sh.shaped {w d : Nat} {x : PyData} (h : Sh w d x) (hd : d ≤ 64) : SeqAt.shaped x = true := by
  rw [SeqAt.shaped, h.cl, Bool.true_and, decide_eq_true_eq]; exact Nat.le_trans h.dp hd
theorem Sh.line {w d : Nat} {x : PyData} (h : Sh w d x) (hw : w ≤ 100000) : x.shown.length ≤ sizeLine := by
  have h1 := PyData.shown_le_bulk 60 (by decide) x h.ls
  have h2 := h.bk
  have h3 : sizeLine = 16777216 := sizeLine_eq
  omega
theorem Sh.eqv {w d : Nat} {x : PyData} (h : Sh w d x) : PyData.eqv x x = true := SeqAt.eqv_refl _ h.cl
/-! data of small depth: what == asks -/
structure Lo (d : Nat) (x : PyData) : Prop where
  cl : x.canLay0 = true
  dp : x.depth ≤ d
structure LoAll (d : Nat) (xs : List PyData) : Prop where
  cl : PyData.canLayAll0 xs = true
  dp : PyData.depthAll xs ≤ d
theorem Lo.int {i : Int} : Lo 0 (.int i) := ⟨rfl, Nat.le_refl _⟩
theorem Lo.bool {b : Bool} : Lo 0 (.bool b) := ⟨rfl, Nat.le_refl _⟩
theorem Lo.none : Lo 0 .none := ⟨rfl, Nat.le_refl _⟩
theorem LoAll.nil : LoAll 0 [] := ⟨rfl, Nat.le_refl _⟩
theorem LoAll.cons {d d' : Nat} {x : PyData} {xs : List PyData} (h : Lo d x) (t : LoAll d' xs) : LoAll (max d d') (x :: xs) :=
  ⟨by rw [PyData.canLayAll0, h.cl, t.cl]; rfl, by rw [PyData.depthAll]; exact Nat.max_le.mpr ⟨Nat.le_trans h.dp (Nat.le_max_left ..), Nat.le_trans t.dp (Nat.le_max_right ..)⟩⟩
theorem Lo.list {d : Nat} {xs : List PyData} (h : LoAll d xs) : Lo (d + 1) (.list xs) := ⟨h.cl, Nat.succ_le_succ h.dp⟩
theorem Lo.tuple {d : Nat} {xs : List PyData} (h : LoAll d xs) : Lo (d + 1) (.tuple xs) := ⟨h.cl, Nat.succ_le_succ h.dp⟩
theorem LoAll.of {d : Nat} : ∀ {xs : List PyData}, (∀ x ∈ xs, Lo d x) → LoAll d xs
  | [], _ => ⟨rfl, Nat.zero_le _⟩
  | x :: xs, h => by
    have := LoAll.cons (h x (List.mem_cons_self ..)) (LoAll.of (xs := xs) fun y hy => h y (List.mem_cons_of_mem _ hy))
    rw [Nat.max_self] at this
    exact this
theorem LoAll.ints {xs : List Int} : LoAll 0 (xs.map PyData.int) := .of fun x hx => by
  obtain ⟨i, _, rfl⟩ := List.mem_map.mp hx
  exact .int
theorem Lo.dI {xs : List Int} : Lo 1 (dI xs) := .list .ints
theorem Lo.dP {d : Int} {xs : List Int} : Lo 2 (dP d xs) := .tuple (.cons .int (.cons .dI .nil))
theorem Lo.shaped {d : Nat} {x : PyData} (h : Lo d x) (hd : d ≤ 64) : SeqAt.shaped x = true := by
  rw [SeqAt.shaped, h.cl, Bool.true_and, decide_eq_true_eq]; exact Nat.le_trans h.dp hd
theorem Lo.eqv {d : Nat} {x : PyData} (h : Lo d x) : PyData.eqv x x = true := SeqAt.eqv_refl _ h.cl
theorem Sh.lo {w d : Nat} {x : PyData} (h : Sh w d x) : Lo d x := ⟨h.cl, h.dp⟩
theorem Le.pre : ∀ (G : Mem) {M : Mem}, Le (G ++ M) M
  | [], M => .refl M
  | _ :: G, _ => .drop (Le.pre G)
/-! what a value is now -/
mutual
inductive Snap (M : Mem) : Rv → PyData → Prop
  | d {x : PyData} : Snap M (.d x) x
  | c {p : Addr} {rs : List Rv} {ds : List PyData} (h : Has p (Is rs) M) (hs : SnapAll M rs ds) : Snap M (.cell p) (.list ds)
  | t {rs : List Rv} {ds : List PyData} (hs : SnapAll M rs ds) : Snap M (.tup rs) (.tuple ds)
inductive SnapAll (M : Mem) : List Rv → List PyData → Prop
  | nil : SnapAll M [] []
  | cons {r : Rv} {rs : List Rv} {d : PyData} {ds : List PyData} : Snap M r d → SnapAll M rs ds → SnapAll M (r :: rs) (d :: ds)
end
theorem SnapAll.all {M : Mem} : ∀ {ds : List PyData}, SnapAll M (ds.map Rv.d) ds
  | [] => .nil
  | _ :: _ => .cons .d .all
theorem SnapAll.rI {M : Mem} {xs : List Int} : SnapAll M (rI xs) (xs.map PyData.int) := by rw [← rI_d]; exact .all
mutual
theorem Snap.dp {K : Frg} {B H : Hp} {M : Mem} (ok : Ok K B H M) : ∀ {r : Rv} {d : PyData} {v : V}, Snap M r d → RvOk K B v r → Dp K H v d
  | _, _, _, .d, q => by cases q with | d q => exact dp_mono ok.ext _ q
  | _, _, _, .c h hs, q => by
    cases q
    obtain ⟨_, xs, rs', hH, hx, hP⟩ := ok.mem _ h.mem
    have e : rs' = _ := hP
    subst e
    exact .lst (.of hH) (SnapAll.dp ok hs hx)
  | _, _, _, .t hs, q => by
    cases q with | tup h ha => exact .tup (sq_mono ok.ext h) (SnapAll.dp ok hs ha)
theorem SnapAll.dp {K : Frg} {B H : Hp} {M : Mem} (ok : Ok K B H M) : ∀ {rs : List Rv} {ds : List PyData} {vs : List V}, SnapAll M rs ds → RvAll K B vs rs → DpAll K H vs ds
  | _, _, _, .nil, q => by cases q; exact .nil
  | _, _, _, .cons h t, q => by cases q with | cons a b => exact .cons (Snap.dp ok h a) (SnapAll.dp ok t b)
end
variable {X : Cx} {ρ : List Rv} {M : Mem} {Φ : Pst} {Ξ : Xi}
theorem g2_eqN {r q : Rv} {d e : PyData} {k1 k2 : Nat} (hu : X.A.units + 64 < cLine) (s1 : Snap M r d) (s2 : Snap M q e) (a1 : Lo k1 d) (a2 : Lo k2 e) (b1 : k1 ≤ 64) (b2 : k2 ≤ 64) (h : Φ (.d (.bool (PyData.eqv d e))) M) : G2 X (compareOp .Eq) r q M Φ :=
  g2_mk (op_eqD hu) fun B H v w ok a b => ⟨d, e, s1.dp ok a, s2.dp ok b, a1.shaped b1, a2.shaped b2, post_same ok (.d (.bl _)) h⟩
theorem g2_neN {r q : Rv} {d e : PyData} {k1 k2 : Nat} (hu : X.A.units + 64 < cLine) (s1 : Snap M r d) (s2 : Snap M q e) (a1 : Lo k1 d) (a2 : Lo k2 e) (b1 : k1 ≤ 64) (b2 : k2 ≤ 64) (h : Φ (.d (.bool (!PyData.eqv d e))) M) : G2 X (compareOp .NotEq) r q M Φ :=
  g2_mk (op_neD hu) fun B H v w ok a b => ⟨d, e, s1.dp ok a, s2.dp ok b, a1.shaped b1, a2.shaped b2, post_same ok (.d (.bl _)) h⟩
theorem gc_reprN {r : Rv} {ds : List PyData} {w k : Nat} (hg : X.A.guards = some []) (hu : X.A.units + 64 < cLine) (s : Snap M r (.list ds)) (a : Sh w k (.list ds)) (b1 : k ≤ 60) (b2 : w ≤ 100000) (h : Φ (.d (.str (PyData.list ds).shown)) M) : GC X (.builtin "repr") [r] M Φ :=
  gc_mk (call_repr hg a.sw (by have := a.dp; omega) (a.line b2)) fun B H vs ok q => by
    cases q with
    | cons q t =>
      cases t
      have q' := s.dp ok q
      cases q' with
      | lst h1 h2 => exact ⟨_, rfl, .lst h1 h2, post_same ok (.d (.str _)) h⟩
/-! list displays, either way -/
def LstK (rs : List Rv) (M : Mem) (Φ : Pst) : Prop := (∃ ds : List PyData, rs = ds.map Rv.d ∧ ds.length ≤ sizeLine ∧ Φ (.d (.list ds)) M) ∨ (rs.length ≤ sizeLine ∧ ∀ p, Φ (.cell p) ((p, Is rs) :: M))
theorem lst_two {es : List Expr} {pos : Pos} (h : GA X es ρ M (fun rs M1 => LstK rs M1 Φ) Ξ) : GE X (.List es pos) ρ M Φ Ξ :=
  fun B H σ ok env tk => eS_of (pe_lst pa_S) (args h ok env tk fun vs H1 B1 M1 rs o1 f1 q1 z => by
    rcases z with ⟨ds, e, z, k⟩ | ⟨z, k⟩
    · subst e
      refine ⟨by rw [q1.length, List.length_map]; exact z, fun p hp => postE_after f1 (post_frz o1 hp (.d (.lst (.of upd_same) (dpAll_mono (same_new (sub_none o1.ext hp)) _ q1.data))) k)⟩
    · refine ⟨by rw [q1.length]; exact z, fun p hp => postE_after f1 (post_own (P := Is rs) o1 hp q1 rfl (k p))⟩)
theorem ex_lD {rs : List Rv} {ds : List PyData} (c : DataL rs ds) (z : ds.length ≤ sizeLine) (h : Φ (.d (.list ds)) M) : LstK rs M Φ := .inl ⟨ds, c.eq, z, h⟩
theorem ex_lO {rs : List Rv} (z : rs.length ≤ sizeLine) (h : ∀ p, Φ (.cell p) ((p, Is rs) :: M)) : LstK rs M Φ := .inr ⟨z, h⟩
end Dl

set_option maxRecDepth 100000
set_option linter.unusedVariables false
namespace Dl
open PySem PySem.Spec PyProof.Rows L2
/-! ## the end: the call of law, by its promise -/
/-- the tracked heap: the script alone, where the module's part does not hold it -/
def Hs (K : Frg) (a : Addr) (o : Obj) (ns : List Int) : Hp := fun b => if b = a ∧ K.lookup a = none then some (.frz o (.lst (ns.map V.int))) else none
theorem Hs.at {K : Frg} {a b : Addr} {o : Obj} {ns : List Int} {u : HO} (h : Hs K a o ns b = some u) : b = a ∧ K.lookup a = none ∧ u = .frz o (.lst (ns.map V.int)) := by
  unfold Hs at h
  by_cases c : b = a ∧ K.lookup a = none
  · rw [if_pos c] at h; cases h; exact ⟨c.1, c.2, rfl⟩
  · rw [if_neg c] at h; cases h
theorem ints_dp {K : Frg} {H : Hp} : ∀ (ns : List Int), DpAll K H (ns.map V.int) (ns.map PyData.int)
  | [] => .nil
  | n :: ns => .cons (.int n) (ints_dp ns)
theorem callD {P : Program} {w : World} {K : Frg} {mg mb : Str → Option Value} {k : Nat} {fa a : Addr} {fd : FuncData} {x : Str} {pd : Prom} {s : Shared} {vs : List Value} {ns : List Int}
    (KX : K.In s.heap) (hns : s.heap.Ns mainGlobals mg) (hb : s.heap.Ns builtinsNs mb) (hbb : ∀ x : Str, x ≠ "__name__" → mb x = bootBuiltins x) (hlim : s.heap.NoLimit) (hg : s.gens = #[])
    (ha : s.heap.get? a = some { cls := .type "list", data := .seq vs.toArray }) (hi : IntsAre vs ns) (hl : ns.length ≤ sizeLine) (hr : Room k callerA)
    (F : ∀ base : Heap, K.In base → base.Ns mainGlobals mg → FnD P w K mg base k fa fd [x] pd) (hbind : ∀ (s : Shared) (u : Value), BindsTo s fd ⟨[u], []⟩ [(x, u)])
    (hpd : pd [.d (dI ns)] [] (fun r _ => r = .d (.bool true)) (fun _ _ => False)) :
    codeAny (model P w) callerA (.call (.ref fa) ⟨[.ref a], []⟩) (fun r s' => r = .ok (.ret (.bool true)) ∧ OldK s.heap s'.heap ∧ s'.os = s.os ∧ AllBare s'.gens) s := by
  obtain ⟨H, eH⟩ : ∃ H, H = Hs K a { cls := .type "list", data := .seq vs.toArray } ns := ⟨_, rfl⟩
  have at' : ∀ {b : Addr} {u : HO}, H b = some u → b = a ∧ K.lookup a = none ∧ u = .frz { cls := .type "list", data := .seq vs.toArray } (.lst (ns.map V.int)) := fun h => Hs.at (eH ▸ h)
  have sq : SqL K H a (ns.map V.int) := by
    cases hk : K.lookup a with
    | none => exact .inl (.inr ⟨_, by rw [eH]; exact if_pos ⟨rfl, hk⟩⟩)
    | some o =>
      have e := KX a o hk
      rw [ha] at e
      cases e
      exact .inr ⟨_, vs.toArray, _, hk, rfl, rfl, rfl, by rw [List.size_toArray, hi.length]; exact hl, by simpa using vals_ints hi⟩
  have dict_out : ∀ {b : Addr} {o : Obj} {es : Array DictEntry} {ep : Nat}, s.heap.get? b = some o → o.data = .dict es ep → H b = none := fun {b o es ep} e d => by
    cases q : H b with
    | none => rfl
    | some u =>
      obtain ⟨rfl, _, _⟩ := at' q
      rw [ha] at e
      cases e
      cases d
  have ns_at : ∀ {b : Addr} {m : Str → Option Value}, s.heap.Ns b m → (hidT s.heap H).Ns b m := fun ⟨o, es, ep, e, d, r⟩ => ⟨o, es, ep, hidT_get e (dict_out e d), d, r⟩
  have KB : K.In (hidT s.heap H) := fun b o e => hidT_get (KX b o e) (by
    cases q : H b with
    | none => rfl
    | some u =>
      obtain ⟨rfl, z, _⟩ := at' q
      rw [e] at z
      cases z)
  have ok : HOk P w H s.heap := fun b u z => by
    obtain ⟨rfl, _, rfl⟩ := at' z
    exact ⟨ha, by rw [List.length_map]; exact hl, vs, _, vals_ints hi, ha⟩
  have e0 : Env0 P w K mg (hidT s.heap H) callerA [] s H :=
    ⟨rfl, ⟨KB, ns_at hns, ⟨mb, ns_at hb, hbb⟩, let ⟨mc, h1, h2⟩ := hlim; ⟨mc, ns_at h1, h2⟩⟩, fun b o e => of_hidT e, Nat.le_of_eq (hidT_size _ _), trivial, fun b z => absurd z List.not_mem_nil, ok, .of_eq hg⟩
  have okD : Ok K H H [] := ⟨Same.refl _, fun p hp => absurd hp List.not_mem_nil, List.nodup_nil⟩
  refine codeAny_mono ((F _ KB (ns_at hns)).run callerA [] s H ⟨[.ref a], []⟩ [.ref a] [.ref a] (fun v _ => v = .bl true) (fun _ _ _ => False) hr rfl e0 (hbind s (.ref a)) (.cons rfl .nil)
    ⟨H, [], [.d (dI ns)], _, _, okD, .cons (.d (.lst sq (ints_dp ns))) .nil, hpd, fun v H' ⟨B1, M1, r, o1, f1, q1, e⟩ => by subst e; exact bool_of q1, fun cls d H' z => by
      obtain ⟨_, _, _, _, _, _, z⟩ := z
      exact z⟩) fun r s' h => ?_
  cases r with
  | error e =>
    obtain ⟨_, _, _, _, _, _, _, _, _, _, _, _, z⟩ := h
    exact z.elim
  | ok fl =>
    cases fl with
    | next => exact False.elim h
    | brk => exact False.elim h
    | cont => exact False.elim h
    | ret u =>
      obtain ⟨v, H', os, bare, un, ok', r', rfl⟩ := h
      obtain rfl : u = Value.bool true := r'
      refine ⟨rfl, OldK.of_keep fun b o e => ?_, os, bare⟩
      cases q : H b with
      | none => exact un.keep b o e q List.not_mem_nil List.not_mem_nil
      | some u =>
        obtain ⟨_, _, rfl⟩ := at' q
        obtain ⟨e1, _⟩ := ok b _ q
        obtain ⟨e2, _⟩ := ok' b _ (un.frzs b _ _ q)
        rw [e1] at e
        cases e
        exact e2
/-- what the top has written: a def; an int -/
def FunIn (K : Frg) (x qual : Str) (st : Stmt) : Prop := ∃ (f : Addr) (oc : Value) (od an : Option Addr) (sl : Array (Option Value)) (kV dc pm cd ct : Value),
  PySem.W.nsIn K mainGlobals x = some (some (.ref f)) ∧ K.lookup f = some ⟨oc, od, .func (PySem.W.fnOf x qual (defArgs st) (defBody st) (defScope st) .none kV dc pm an cd ct), sl⟩ ∧ PySem.W.codeIn K cd qual = true ∧ PySem.W.keepIn K (.ref f) = true
theorem fi {K : Frg} {x qual : Str} {st : Stmt} {f : Addr} {oc : Value} {od an : Option Addr} {sl : Array (Option Value)} {kV dc pm cd ct : Value} (a : PySem.W.nsIn K mainGlobals x = some (some (.ref f)))
    (l : K.lookup f = some ⟨oc, od, .func (PySem.W.fnOf x qual (defArgs st) (defBody st) (defScope st) .none kV dc pm an cd ct), sl⟩) (c : PySem.W.codeIn K cd qual = true) (k : PySem.W.keepIn K (.ref f) = true) : FunIn K x qual st :=
  ⟨f, oc, od, an, sl, kV, dc, pm, cd, ct, a, l, c, k⟩
def ConIn (K : Frg) (x : Str) (v : V) : Prop := ∃ u : Value, PySem.W.nsIn K mainGlobals x = some (some u) ∧ RelV v u
theorem ci {K : Frg} {x : Str} {i : Int} {t : Tok} (a : PySem.W.nsIn K mainGlobals x = some (some (.int i t))) : ConIn K x (.int i) := ⟨_, a, t, rfl⟩
theorem ConIn.glo {K : Frg} {h : Heap} {mg : Str → Option Value} {x : Str} {v : V} (j : ConIn K x v) (X : K.In h) (G : h.Ns mainGlobals mg) (d : (x == ("__debug__" : Str)) = false) : GloG mg x v := by
  obtain ⟨u, a, r⟩ := j
  exact ⟨⟨u, PySem.W.mg_of X G a, r⟩, d⟩
theorem walk_D {l : PySem.W.OpenLaw} {n k : Nat} {q : Program} {loose : List Str} {XP : (Str → Option Value) → Heap → Prop} {YP : World → Heap → Prop} {d : DefRec} {K : Params → Frg} {pd : Prom} {x : Str}
    (hn : l.most = some n) (hn2 : n ≤ sizeLine) (hdf : d.params.defaults = []) (hr : Room k callerA) (hY : ∀ (w : World) (h : Heap), YP w h → (K w.params).In h)
    (F : ∀ (w : World) (mg : Str → Option Value) (fa : Addr) (h : Heap), (K w.params).In h → h.Ns mainGlobals mg → mg d.name = some (.ref fa) →
      ∃ fd : FuncData, (∀ (s : Shared) (u : Value), BindsTo s fd ⟨[u], []⟩ [(x, u)]) ∧ ∀ base : Heap, (K w.params).In base → base.Ns mainGlobals mg → FnD l.prog w (K w.params) mg base k fa fd [x] pd)
    (hpd : ∀ ns : List Int, ns.length ≤ n → pd [.d (dI ns)] [] (fun r _ => r = .d (.bool true)) (fun _ _ => False)) :
    PySem.W.WalkO q loose XP YP l.row.toRowW d [] (fun f vs => PySem.call f vs) := by
  refine Att.attach_call hn hdf fun w s₀ s₁ mg mb fa o pm cd doc a vs ns G Y ho hd hcd hmg hobj hints hlen hg => ?_
  obtain ⟨fd, hb, hF⟩ := F w mg fa _ (hY w _ Y) G.T.g hmg
  exact callD (hY w _ Y) G.T.g G.T.b G.T.builtins G.T.nolimit hg hobj hints (Nat.le_trans hlen hn2) hr hF hb (hpd ns hlen)
end Dl

open PySem PySem.Spec PyProof.Rows L2 Dl
local macro_rules | `(tactic| walk_at "nm") => `(tactic| first | with_reducible assumption | (refine Var.nm ?_; with_reducible assumption) | (apply bNm; walk_at "nm") | fail "nm")
local macro_rules | `(tactic| walk_at "blk") => `(tactic| ((with_reducible first | apply bNd | apply bCalm | apply bBi | apply bGlo | apply bDef | apply bRoom | apply bGu | apply bMg); first | with_reducible assumption | walk_at "blk"))
local macro_rules | `(tactic| walk_at "cell") => `(tactic| first | exact Cell.h | exact Cell.app | exact Has.h | exact Has.app | exact Del.h | (apply Cell.t; walk_at "cell") | (apply Has.t; walk_at "cell") | (apply Del.t; walk_at "cell") | fail "cell")
local macro_rules | `(tactic| walk_at "data") => `(tactic| repeat (first | exact DataL.nil | apply DataL.cons))
local macro_rules | `(tactic| walk_at "sz") => `(tactic| (first | refine szL ?_ | refine szT ?_) <;> first | omega | (simp only [List.length_cons, List.length_nil, List.length_map, List.length_append]; omega) | (simp; done) | (simp; omega))
local macro_rules | `(tactic| walk_at "snap") => `(tactic| (with_reducible first | exact Snap.d | exact SnapAll.rI | exact SnapAll.all | exact SnapAll.nil | (apply SnapAll.cons <;> walk_at "snap") | ((apply Snap.c); (case h => walk_at "cell"); (case hs => walk_at "snap")) | (apply Snap.t; walk_at "snap") | fail "snap"))
local macro_rules | `(tactic| walk_at "sh") => `(tactic| (with_reducible first | assumption | exact ShAll.nil0 | exact Sh.bool | exact Sh.none | (apply ShAll.cons2 <;> walk_at "sh") | (apply Sh.list; walk_at "sh") | (apply Sh.tuple; walk_at "sh") | (exact Sh.int (by decide)) | fail "sh"))
local macro_rules | `(tactic| walk_at "lo") => `(tactic| (with_reducible first | assumption | exact Lo.int | exact Lo.dI | exact Lo.dP | exact LoAll.nil | exact Lo.bool | exact Lo.none | (apply LoAll.cons <;> walk_at "lo") | (apply Lo.list; walk_at "lo") | (apply Lo.tuple; walk_at "lo") | fail "lo"))
local macro_rules | `(tactic| walk_at "le") => `(tactic| (repeat (first | exact Le.refl _ | exact Le.pre _ | apply Le.drop)))
local macro_rules | `(tactic| walk_at "set") => `(tactic| first | exact SetAt.z | (apply SetAt.s; walk_at "set") | fail "set")
local macro_rules | `(tactic| walk_at "mu") => `(tactic| first | exact MuAt.m | exact MuAt.c | (apply MuAt.s; walk_at "mu") | fail "mu")
local macro_rules | `(tactic| walk_at "GSs") => `(tactic| first
  | ((with_reducible refine' sq ?_))
  | ((with_reducible refine' sNil ?_))
  | fail "stuck")
local macro_rules | `(tactic| walk_at "GE") => `(tactic| first
  | ((with_reducible refine' ge_int ?_))
  | ((with_reducible refine' ge_name ?v ?h1 ?h2 ?_); (case v => first | with_reducible assumption | walk_at "blk"); (case h1 => rfl); (case h2 => rfl))
  | ((with_reducible refine' ge_nameC ?v ?w ?h1 ?h2 ?_); (case v => walk_at "nm"); (case w => first | exact .inl rfl | exact .inr (.inl rfl) | exact .inr (.inr rfl)); (case h1 => rfl); (case h2 => rfl))
  | ((with_reducible refine' ge_bin ?_))
  | ((with_reducible refine' ge_ix ?h ?_); (case h => exact fun _ _ => rfl))
  | ((with_reducible refine' append_at ?h1 ?h2 ?h3 ?h4 ?h5 ?_); (case h1 => rfl); (case h2 => rfl); (case h3 => rfl); (case h4 => rfl); (case h5 => rfl))
  | ((with_reducible refine' ge_cmp ?h ?_); (case h => rfl))
  | ((with_reducible refine' ge_bl ?_))
  | ((with_reducible refine' ge_non ?_))
  | ((with_reducible refine' ge_str ?_))
  | ((with_reducible refine' ge_if ?_))
  | ((with_reducible refine' ge_not ?_))
  | ((with_reducible refine' ge_and ?_))
  | ((with_reducible refine' ge_or ?_))
  | ((with_reducible refine' ge_one ?_))
  | ((with_reducible refine' ge_chain ?h ?_); (case h => rfl))
  | ((with_reducible refine' ge_neg ?_))
  | ((with_reducible refine' tup_at ?_))
  | ((with_reducible refine' lst_two ?_))
  | ((with_reducible apply ge_gint); (case hm => first | with_reducible assumption | walk_at "blk"); (case hg => first | with_reducible assumption | rfl))
  | ((with_reducible apply ge_ty); (case hb => first | with_reducible assumption | walk_at "blk"); (case hg => first | with_reducible assumption | rfl))
  | ((with_reducible apply ge_callTy); (case hb => first | with_reducible assumption | walk_at "blk"); (case hg => first | with_reducible assumption | rfl); (case he => rfl); (case hpl => rfl))
  | ((with_reducible apply ge_callB); (case hb => first | with_reducible assumption | walk_at "blk"); (case hg => first | with_reducible assumption | rfl); (case he => rfl); (case hpl => rfl))
  | ((with_reducible apply ge_callK); (case Df => first | with_reducible assumption | walk_at "blk"); (case ho => exact List.mem_cons_self ..); (case hks => rfl); (case hr => first | with_reducible assumption | walk_at "blk"); (case hgu => first | with_reducible assumption | walk_at "blk"); (case hg => first | with_reducible assumption | rfl); (case hall => rfl); (case hpl => rfl))
  | ((with_reducible apply ge_callK); (case Df => first | with_reducible assumption | walk_at "blk"); (case ho => exact List.mem_cons_of_mem _ (List.mem_cons_self ..)); (case hks => rfl); (case hr => first | with_reducible assumption | walk_at "blk"); (case hgu => first | with_reducible assumption | walk_at "blk"); (case hg => first | with_reducible assumption | rfl); (case hall => rfl); (case hpl => rfl))
  | ((with_reducible apply ge_call); (case Df => first | with_reducible assumption | walk_at "blk"); (case hr => first | with_reducible assumption | walk_at "blk"); (case hgu => first | with_reducible assumption | walk_at "blk"); (case hg => first | with_reducible assumption | rfl); (case he => rfl); (case hpl => rfl))
  | fail "stuck")
local macro_rules | `(tactic| walk_at "GA") => `(tactic| first
  | ((with_reducible refine' ga_cons ?h ?_); (case h => rfl))
  | ((with_reducible refine' ga_nil ?_))
  | fail "stuck")
local macro_rules | `(tactic| walk_at "G2") => `(tactic| first
  | ((with_reducible refine' g2_add ?_))
  | ((with_reducible refine' g2_sub ?_))
  | ((with_reducible refine' g2_lt ?_))
  | ((with_reducible refine' g2_le ?_))
  | ((with_reducible refine' g2_gt ?_))
  | ((with_reducible refine' g2_ge ?_))
  | ((with_reducible refine' g2_eqI ?_))
  | ((with_reducible refine' g2_neI ?_))
  | ((with_reducible refine' g2_eqB ?_))
  | ((with_reducible refine' g2_neB ?_))
  | ((with_reducible refine' g2_eqS ?_))
  | ((with_reducible refine' g2_neS ?_))
  | ((with_reducible refine' g2_mod ?h ?_); (case h => omega))
  | ((with_reducible refine' g2_mul ?h ?_); (case h => refine mulB ?_ ?_ <;> omega))
  | ((with_reducible refine' g2_fdiv ?h ?_); (case h => refine divB ?_ ?_ <;> omega))
  | ((with_reducible refine' ten6 ?_))
  | ((with_reducible refine' ten10 ?_))
  | ((with_reducible refine' ten12 ?_))
  | ((with_reducible refine' ten18 ?_))
  | ((with_reducible refine' ten20 ?_))
  | ((with_reducible refine' ten24 ?_))
  | ((with_reducible refine' ten25 ?_))
  | ((with_reducible refine' ten26 ?_))
  | ((with_reducible refine' ten27 ?_))
  | ((with_reducible refine' ten28 ?_))
  | ((with_reducible refine' ten29 ?_))
  | ((with_reducible refine' ten30 ?_))
  | ((with_reducible refine' ten37 ?_))
  | ((with_reducible refine' ten41 ?_))
  | ((with_reducible refine' ten46 ?_))
  | ((with_reducible refine' g2_cube ?h fun r => ?_); (case h => omega))
  | ((with_reducible apply g2_eqN); (case hu => with_reducible assumption); (case s1 => walk_at "snap"); (case s2 => walk_at "snap"); (case a1 => walk_at "lo"); (case a2 => walk_at "lo"); (case b1 => decide); (case b2 => decide))
  | ((with_reducible apply g2_neN); (case hu => with_reducible assumption); (case s1 => walk_at "snap"); (case s2 => walk_at "snap"); (case a1 => walk_at "lo"); (case a2 => walk_at "lo"); (case b1 => decide); (case b2 => decide))
  | fail "stuck")
local macro_rules | `(tactic| walk_at "GIx") => `(tactic| first
  | ((with_reducible refine' ix_cL ?h ?_); (case h => walk_at "cell"))
  | ((with_reducible refine' ix_c ?h ?e ?_); (case h => walk_at "cell"); (case e => rfl))
  | ((with_reducible refine' ix_t ?e ?_); (case e => rfl))
  | ((with_reducible refine' ix_l ?e ?_); (case e => rfl))
  | ((with_reducible refine' ix_dI ?h0 ?h1 fun v hv => ?_); (case h0 => omega); (case h1 => omega))
  | ((with_reducible refine' ix_u ?e ?_); (case e => rfl))
  | fail "stuck")
local macro_rules | `(tactic| walk_at "GS") => `(tactic| first
  | ((with_reducible refine' sSetO ?v ?n ?m ?_); (case v => first | with_reducible assumption | walk_at "blk"); (case n => first | with_reducible assumption | walk_at "blk"); (case m => walk_at "mu"))
  | ((with_reducible refine' sSet ?v ?n ?s ?_); (case v => first | with_reducible assumption | walk_at "blk"); (case n => first | with_reducible assumption | walk_at "blk"); (case s => rfl))
  | ((with_reducible refine' sRetO ?f ?_); (case f => first | with_reducible assumption | walk_at "blk"))
  | ((with_reducible refine' sIf ?_))
  | ((with_reducible refine' sRet ?_))
  | ((with_reducible refine' sPass ?_))
  | ((with_reducible refine' sExpr ?s ?_); (case s => rfl))
  | ((with_reducible refine' sIx ?h1 ?h2 ?h3 ?h4 ?_); (case h1 => rfl); (case h2 => rfl); (case h3 => rfl); (case h4 => intro _; rfl))
  | ((with_reducible refine' sAsg ?h1 ?h2 ?h3 ?_); (case h1 => rfl); (case h2 => rfl); (case h3 => rfl))
  | ((with_reducible refine' sPar3N ?a ?b ?d ?c ?n ?i ?j ?l ?x ?y ?z ?s ?w ?t ?u fun p => ?_); (case a => first | with_reducible assumption | walk_at "blk"); (case b => first | with_reducible assumption | walk_at "blk"); (case d => first | with_reducible assumption | walk_at "blk"); (case c => first | with_reducible assumption | walk_at "blk"); (case n => first | with_reducible assumption | walk_at "blk"); (case i => decide); (case j => decide); (case l => decide); (case x => (apply Cxt.loc; (with_reducible assumption); rfl)); (case y => (apply Cxt.loc; (with_reducible assumption); rfl)); (case z => (apply Cxt.loc; (with_reducible assumption); rfl)); (case s => (apply Cxt.swap; (with_reducible assumption); rfl)); (case w => rfl); (case t => rfl); (case u => rfl))
  | ((with_reducible refine' sParN1 ?a ?b ?c ?n ?i ?x ?y ?s ?w ?t fun p => ?_); (case a => first | with_reducible assumption | walk_at "blk"); (case b => first | with_reducible assumption | walk_at "blk"); (case c => first | with_reducible assumption | walk_at "blk"); (case n => first | with_reducible assumption | walk_at "blk"); (case i => decide); (case x => (apply Cxt.loc; (with_reducible assumption); rfl)); (case y => (apply Cxt.loc; (with_reducible assumption); rfl)); (case s => (apply Cxt.swap; (with_reducible assumption); rfl)); (case w => rfl); (case t => rfl))
  | ((with_reducible refine' sParN2 ?a ?b ?c ?n ?i ?x ?y ?s ?w ?t ?_); (case a => first | with_reducible assumption | walk_at "blk"); (case b => first | with_reducible assumption | walk_at "blk"); (case c => first | with_reducible assumption | walk_at "blk"); (case n => first | with_reducible assumption | walk_at "blk"); (case i => decide); (case x => (apply Cxt.loc; (with_reducible assumption); rfl)); (case y => (apply Cxt.loc; (with_reducible assumption); rfl)); (case s => (apply Cxt.swap; (with_reducible assumption); rfl)); (case w => rfl); (case t => rfl))
  | ((with_reducible refine' sPar ?a ?b ?c ?n ?i ?x ?y ?s ?w ?_); (case a => first | with_reducible assumption | walk_at "blk"); (case b => first | with_reducible assumption | walk_at "blk"); (case c => first | with_reducible assumption | walk_at "blk"); (case n => first | with_reducible assumption | walk_at "blk"); (case i => decide); (case x => (apply Cxt.loc; (with_reducible assumption); rfl)); (case y => (apply Cxt.loc; (with_reducible assumption); rfl)); (case s => (apply Cxt.swap; (with_reducible assumption); rfl)); (case w => rfl))
  | ((with_reducible refine' sFor ?p ?c ?f ?_); (case p => first | with_reducible assumption | walk_at "blk"); (case c => first | with_reducible assumption | walk_at "blk"); (case f => intro _; rfl))
  | fail "stuck")
local macro_rules | `(tactic| walk_at "GT") => `(tactic| first
  | ((with_reducible refine' gt_cmp ?h ?_); (case h => rfl))
  | ((with_reducible refine' gt_chain ?h ?_); (case h => rfl))
  | ((with_reducible refine' gt_not ?_))
  | ((with_reducible refine' gt_w (gw_and ?_)))
  | ((with_reducible refine' gt_w (gw_or ?_)))
  | ((with_reducible refine' gt_tru ?w ?_); (case w => intro _; rfl))
  | fail "stuck")
local macro_rules | `(tactic| walk_at "GW") => `(tactic| first
  | ((with_reducible refine' gw_and ?_))
  | ((with_reducible refine' gw_or ?_))
  | ((with_reducible refine' gw_and1 ?_))
  | ((with_reducible refine' gw_or1 ?_))
  | fail "stuck")
local macro_rules | `(tactic| walk_at "GK") => `(tactic| first
  | ((with_reducible refine' gk_cons ?_))
  | ((with_reducible refine' gk_nil ?_))
  | fail "stuck")
local macro_rules | `(tactic| walk_at "GC") => `(tactic| first
  | ((with_reducible refine' isi_none_int ?_))
  | ((with_reducible refine' isi_none_bool ?_))
  | ((with_reducible refine' isi_none_list ?_))
  | ((with_reducible refine' isi_none_tuple ?_))
  | ((with_reducible refine' isi_none_str ?_))
  | ((with_reducible refine' isi_bool_int ?_))
  | ((with_reducible refine' isi_bool_bool ?_))
  | ((with_reducible refine' isi_bool_list ?_))
  | ((with_reducible refine' isi_bool_tuple ?_))
  | ((with_reducible refine' isi_bool_str ?_))
  | ((with_reducible refine' isi_int_int ?_))
  | ((with_reducible refine' isi_int_bool ?_))
  | ((with_reducible refine' isi_int_list ?_))
  | ((with_reducible refine' isi_int_tuple ?_))
  | ((with_reducible refine' isi_int_str ?_))
  | ((with_reducible refine' isi_str_int ?_))
  | ((with_reducible refine' isi_str_bool ?_))
  | ((with_reducible refine' isi_str_list ?_))
  | ((with_reducible refine' isi_str_tuple ?_))
  | ((with_reducible refine' isi_str_str ?_))
  | ((with_reducible refine' isi_list_int ?_))
  | ((with_reducible refine' isi_list_bool ?_))
  | ((with_reducible refine' isi_list_list ?_))
  | ((with_reducible refine' isi_list_tuple ?_))
  | ((with_reducible refine' isi_list_str ?_))
  | ((with_reducible refine' isi_tuple_int ?_))
  | ((with_reducible refine' isi_tuple_bool ?_))
  | ((with_reducible refine' isi_tuple_list ?_))
  | ((with_reducible refine' isi_tuple_tuple ?_))
  | ((with_reducible refine' isi_tuple_str ?_))
  | ((with_reducible refine' isi_dict_int ?_))
  | ((with_reducible refine' isi_dict_bool ?_))
  | ((with_reducible refine' isi_dict_list ?_))
  | ((with_reducible refine' isi_dict_tuple ?_))
  | ((with_reducible refine' isi_dict_str ?_))
  | ((with_reducible refine' gc_int ?_))
  | ((with_reducible refine' gc_intB ?_))
  | ((with_reducible refine' gc_abs ?_))
  | ((with_reducible refine' gc_max ?c ?_); (case c => first | with_reducible assumption | walk_at "blk"))
  | ((with_reducible refine' gc_min ?c ?_); (case c => first | with_reducible assumption | walk_at "blk"))
  | ((with_reducible refine' gc_lenI ?_))
  | ((with_reducible refine' gc_lenL ?_))
  | ((with_reducible refine' gc_lenT ?_))
  | ((with_reducible refine' lenC_at ?c ?_); (case c => walk_at "cell"))
  | ((with_reducible refine' gc_list ?_))
  | ((with_reducible refine' gc_listT ?_))
  | ((with_reducible refine' gc_all ?c ?_); (case c => first | with_reducible assumption | walk_at "blk"))
  | ((with_reducible refine' gc_sum ?c ?_); (case c => first | with_reducible assumption | walk_at "blk"))
  | ((with_reducible apply gc_reprN); (case hg => first | with_reducible assumption | walk_at "blk"); (case hu => first | with_reducible assumption | walk_at "blk"); (case s => walk_at "snap"); (case a => walk_at "sh"); (case b1 => decide); (case b2 => decide))
  | fail "stuck")
local macro_rules | `(tactic| walk_at "GO") => `(tactic| first
  | ((with_reducible refine' go_none ?_))
  | ((with_reducible refine' go_some ?_))
  | fail "stuck")
local macro_rules | `(tactic| walk_at "GI") => `(tactic| first
  | ((with_reducible refine' gi_range1 ?b ?g ?s ?_); (case b => first | with_reducible assumption | walk_at "blk"); (case g => first | with_reducible assumption | rfl); (case s => rfl))
  | ((with_reducible refine' gi_zip ?b ?g ?s ?p ?_); (case b => first | with_reducible assumption | walk_at "blk"); (case g => first | with_reducible assumption | rfl); (case s => rfl); (case p => rfl))
  | ((with_reducible refine' gi_enum ?b ?g ?s ?_); (case b => first | with_reducible assumption | walk_at "blk"); (case g => first | with_reducible assumption | rfl); (case s => rfl))
  | ((with_reducible refine' gi_tupD ?_))
  | ((with_reducible refine' gi_data ?_))
  | fail "stuck")
local macro_rules | `(tactic| walk_at "ex") => `(tactic| first
  | ((with_reducible apply ex_set); (case s => walk_at "set"))
  | ((with_reducible apply ex_par); (case s => walk_at "set"); (case t => walk_at "set"))
  | ((with_reducible apply ex_ix); (case c => walk_at "cell"); (case s => first | exact IxSet.last | exact IxSet.zero | exact IxSet.one | exact IxSet.two))
  | ((with_reducible apply ex_lD); (case c => walk_at "data"); (case z => walk_at "sz"))
  | ((with_reducible apply ex_lO); (case z => walk_at "sz"))
  | ((with_reducible apply ex_data); (case c => walk_at "data"); (case z => walk_at "sz"))
  | ((with_reducible apply ex_cell); (case c => walk_at "cell"))
  | ((with_reducible apply ex_app); (case c => walk_at "cell"); (case z => walk_at "sz"))
  | ((with_reducible apply use_isI))
  | ((with_reducible apply use_atL))
  | ((with_reducible apply use_inRg))
  | ((with_reducible apply use_isT))
  | ((with_reducible apply use_is2))
  | ((with_reducible apply use_draw); (case hc => walk_at "cell"); (case h0 => omega); (case h1 => omega); (case hk => omega))
  | ((with_reducible apply ex_zip))
  | ((with_reducible apply ex_tB))
  | ((with_reducible apply ex_tN))
  | ((with_reducible apply ex_tL))
  | ((with_reducible apply ex_tT))
  | ((with_reducible apply ex_tC); (case hc => walk_at "cell"))
  | ((with_reducible apply ex_bool))
  | ((with_reducible apply ex_int))
  | ((with_reducible apply ex_list))
  | ((with_reducible apply ex_tuple))
  | ((with_reducible apply ex_rng); (case h1 => omega); (case h2 => omega))
  | ((with_reducible show (_ = true → _) ∧ (_ = false → _)); refine And.intro (fun h => ?_) (fun h => ?_) <;> (try simp only [isI, atL, inRg, isT, is2, Bool.and_eq_true, decide_eq_true_eq, decide_eq_false_iff_not, Bool.not_eq_true', Bool.not_eq_false', Bool.true_eq_false, Bool.false_eq_true] at h) <;> (try (exfalso; omega)))
  | ((with_reducible show (_ = false → _) ∧ (_ = true → _)); refine And.intro (fun h => ?_) (fun h => ?_) <;> (try simp only [isI, atL, inRg, isT, is2, Bool.and_eq_true, decide_eq_true_eq, decide_eq_false_iff_not, Bool.not_eq_true', Bool.not_eq_false', Bool.true_eq_false, Bool.false_eq_true] at h) <;> (try (exfalso; omega)))
  | ((with_reducible show _ ≤ sizeLine ∧ ∀ _ : Addr, _); refine' And.intro ?z (fun q => ?_); (case z => walk_at "sz"))
  | (with_reducible intro _)
  | ((with_reducible show AllB _ _ _); intro _)
  | fail "stuck")
local macro_rules | `(tactic| walk_at "GG") => `(tactic| first
  | ((with_reducible apply Dl.gName); (case hv => with_reducible assumption); (case nd => first | with_reducible assumption | walk_at "blk"); (case hvs => exact .inl rfl); (case s => walk_at "set"))
  | ((with_reducible apply gg_two); (case hx => with_reducible assumption); (case hy => with_reducible assumption); (case nd => first | with_reducible assumption | walk_at "blk"); (case hc => first | with_reducible assumption | walk_at "blk"); (case s => walk_at "set"); (case t => walk_at "set"))
  | ((with_reducible apply Dl.gNameC); (case hN => walk_at "nm"); (case nd => first | with_reducible assumption | walk_at "blk"); (case hl => rfl); (case hvs => simp); (case s => walk_at "set"))
  | ((with_reducible apply gg_twoC); (case hx => walk_at "nm"); (case hy => walk_at "nm"); (case nd => first | with_reducible assumption | walk_at "blk"); (case hc => first | with_reducible assumption | walk_at "blk"); (case lx => rfl); (case ly => rfl); (case mi => simp); (case mj => simp); (case s => walk_at "set"); (case t => walk_at "set"))
  | fail "stuck")
local macro_rules | `(tactic| walk_at "e") => `(tactic| first
  | ((with_reducible show GE _ _ _ _ _ _); walk_at "GE")
  | ((with_reducible show GA _ _ _ _ _ _); walk_at "GA")
  | ((with_reducible show G2 _ _ _ _ _ _); walk_at "G2")
  | ((with_reducible show GIx _ _ _ _ _); walk_at "GIx")
  | ((with_reducible show GS _ _ _ _ _); walk_at "GS")
  | ((with_reducible show GSs _ _ _ _ _); walk_at "GSs")
  | ((with_reducible show GC _ _ _ _ _); walk_at "GC")
  | ((with_reducible show GT _ _ _ _ _ _); walk_at "GT")
  | ((with_reducible show GW _ _ _ _ _ _); walk_at "GW")
  | ((with_reducible show GK _ _ _ _ _ _); walk_at "GK")
  | ((with_reducible show GG _ _ _ _ _ _ _); walk_at "GG")
  | ((with_reducible show GI _ _ _ _ _ _ _); walk_at "GI")
  | ((with_reducible show GO _ _ _ _ _ _); walk_at "GO")
  | walk_at "ex"
  | fail "stuck")

namespace LW
def topS (i : Nat) : Stmt := PySem.Challenge.pw_dialpack_k07_ways_and_joined_turns.main.body.getD i (.Pass ⟨0, 0, 0, 0⟩)
abbrev s_law_draw : Stmt := topS 26
theorem sc_law_draw : FnScope ["coil", "bound", "drawn", "mixed"] ["coil", "bound"] (defScope s_law_draw) := ⟨rfl, rfl, rfl, by decide +kernel, rfl, by decide +kernel, by decide +kernel⟩
theorem vs_law_draw {X : Cx} (cx : Cxt X ["coil", "bound", "drawn", "mixed"] (defScope s_law_draw)) : Var X 0 "coil" ∧ Var X 1 "bound" ∧ Var X 2 "drawn" ∧ Var X 3 "mixed" :=
  ⟨cx.var rfl (.inl rfl) (by decide) (by decide), cx.var rfl (.inl rfl) (by decide) (by decide), cx.var rfl (.inl rfl) (by decide) (by decide), cx.var rfl (.inl rfl) (by decide) (by decide)⟩
theorem gs_law_draw {X : Cx} (cx : Cxt X ["coil", "bound", "drawn", "mixed"] (defScope s_law_draw)) : Gl X "int" :=
  cx.gl rfl
theorem ok_law_draw {P : Program} {w : World} {K : Frg} {mg : Str → Option Value} {base : Heap} {f : Addr} {fd : FuncData} (F : L2.Fun K "_law_draw" "_law_draw" s_law_draw f fd) (m_int : mg "int" = none) : FnD P w K mg base 1 f fd ["coil", "bound"] pdDraw := by
  refine Fun.okD [.any, .any] F sc_law_draw rfl rfl (fun rs M Φ Ξ ⟨_, _, _, _, e, _⟩ => by rw [e]; rfl) fun X hP hw hK hm hb cx hr rs M Φ Ξ h => ?_
  subst hP hw hK hm hb
  obtain ⟨v0, v1, v2, v3⟩ := vs_law_draw cx
  have g_int := gs_law_draw cx
  have b_int : Bi X "int" (.type "int") := .mk' m_int (by decide +kernel) (by decide) (by decide)
  have nd := cx.nd
  have calm := cx.calm
  have gu := cx.gu
  have pass := cx.pass
  obtain ⟨c, b, k, M', rfl, hb0, hb1, hc, hk, q⟩ := h
  obtain ⟨Ma, Mb, e1, e2⟩ := hc.split
  subst e1 e2
  refine gss_open fun rs hrs => ?_
  obtain ⟨a, e, n, rfl, ha, he0, he1, hn0, hn1⟩ := hrs
  dsimp only [List.cons_append, List.nil_append]
  refine sq ?_
  repeat' walk_at "e"
  · refine ⟨_, Le.app (P' := Coil (k + 1)) (fun rs h => ⟨_, _, _, h, Int.ediv_nonneg ha (by omega), he0, he1, hn0, by omega⟩), q _ (Int.emod_nonneg _ (by omega)) (Int.emod_lt_of_pos _ hb0)⟩
  · refine ⟨_, Le.app (P' := Coil (k + 1)) (fun rs h => ⟨_, _, _, h, ha, he0, he1, by omega, by omega⟩), q _ (Int.emod_nonneg _ (by omega)) (Int.emod_lt_of_pos _ hb0)⟩
abbrev s_law_coil : Stmt := topS 25
theorem sc_law_coil : FnScope ["script", "at", "cell"] ["script", "at"] (defScope s_law_coil) := ⟨rfl, rfl, rfl, by decide +kernel, rfl, by decide +kernel, by decide +kernel⟩
theorem vs_law_coil {X : Cx} (cx : Cxt X ["script", "at", "cell"] (defScope s_law_coil)) : Var X 0 "script" ∧ Var X 1 "at" ∧ Var X 2 "cell" :=
  ⟨cx.var rfl (.inl rfl) (by decide) (by decide), cx.var rfl (.inl rfl) (by decide) (by decide), cx.var rfl (.inl rfl) (by decide) (by decide)⟩
theorem gs_law_coil {X : Cx} (cx : Cxt X ["script", "at", "cell"] (defScope s_law_coil)) : Gl X "len" ∧ Gl X "max" ∧ Gl X "abs" ∧ Gl X "int" :=
  ⟨cx.gl rfl, cx.gl rfl, cx.gl rfl, cx.gl rfl⟩
theorem ok_law_coil {P : Program} {w : World} {K : Frg} {mg : Str → Option Value} {base : Heap} {f : Addr} {fd : FuncData} (F : L2.Fun K "_law_coil" "_law_coil" s_law_coil f fd) (m_len : mg "len" = none) (m_max : mg "max" = none) (m_abs : mg "abs" = none) (m_int : mg "int" = none) : FnD P w K mg base 1 f fd ["script", "at"] pdCoil := by
  refine Fun.okD [.any] F sc_law_coil rfl rfl (fun rs M Φ Ξ ⟨_, _, e, _⟩ => by rw [e]; rfl) fun X hP hw hK hm hb cx hr rs M Φ Ξ h => ?_
  subst hP hw hK hm hb
  obtain ⟨v0, v1, v2⟩ := vs_law_coil cx
  obtain ⟨g_len, g_max, g_abs, g_int⟩ := gs_law_coil cx
  have b_len : Bi X "len" (.builtin "len") := .mk' m_len (by first | exact PySem.boot_len | decide +kernel) (by decide) (by decide)
  have b_max : Bi X "max" (.builtin "max") := .mk' m_max (by first | exact PySem.boot_len | decide +kernel) (by decide) (by decide)
  have b_abs : Bi X "abs" (.builtin "abs") := .mk' m_abs (by first | exact PySem.boot_len | decide +kernel) (by decide) (by decide)
  have b_int : Bi X "int" (.type "int") := .mk' m_int (by decide +kernel) (by decide) (by decide)
  have nd := cx.nd
  have calm := cx.calm
  have gu := cx.gu
  have pass := cx.pass
  obtain ⟨xs, k, rfl, h0, h1, q⟩ := h
  have own : OwnRet X := trivial
  dsimp only [List.cons_append, List.nil_append]
  refine sq ?_
  repeat' walk_at "e"
  all_goals exact ⟨_, .keep (P' := Coil 0) (fun rs h => ⟨_, _, _, h, by omega, by omega, by omega, by omega, by omega⟩) (.refl M), q _⟩
/-! a lock, a state -/
def pdPack : Prom := fun rs M Φ _ => ∃ (c : Addr) (k : Nat) (M' : Mem) (mo fa : Int), rs = [.cell c, .d (.int mo), .d (.int fa)] ∧ 1 ≤ mo ∧ mo ≤ 60 ∧ 1 ≤ fa ∧ fa ≤ 10 ^ 30 ∧ k ≤ 900000 ∧ Cell c (Coil k) (Coil (k + 200)) M M' ∧
  ∀ (ring : Int) (ps : List Int), 2 ≤ ring → ring < 10 ^ 31 → 1 ≤ ps.length → (ps.length : Int) ≤ mo → (∀ p ∈ ps, 0 ≤ p ∧ p < 10 ^ 32) → Φ (.d (dP ring ps)) M'
abbrev s_law_pack : Stmt := topS 27
theorem sc_law_pack : FnScope ["coil", "most", "far", "circle", "plays_here", "lap", "some"] ["coil", "most", "far"] (defScope s_law_pack) := ⟨rfl, rfl, rfl, by decide +kernel, rfl, by decide +kernel, by decide +kernel⟩
theorem vs_law_pack {X : Cx} (cx : Cxt X ["coil", "most", "far", "circle", "plays_here", "lap", "some"] (defScope s_law_pack)) : Var X 0 "coil" ∧ Var X 1 "most" ∧ Var X 2 "far" ∧ Var X 3 "circle" ∧ Var X 4 "plays_here" ∧ Var X 5 "lap" ∧ Var X 6 "some" :=
  ⟨cx.var rfl (.inl rfl) (by decide) (by decide), cx.var rfl (.inl rfl) (by decide) (by decide), cx.var rfl (.inl rfl) (by decide) (by decide), cx.var rfl (.inl rfl) (by decide) (by decide), cx.var rfl (.inl rfl) (by decide) (by decide), cx.var rfl (.inl rfl) (by decide) (by decide), cx.var rfl (.inl rfl) (by decide) (by decide)⟩
theorem gs_law_pack {X : Cx} (cx : Cxt X ["coil", "most", "far", "circle", "plays_here", "lap", "some"] (defScope s_law_pack)) : Gl X "_law_draw" ∧ Gl X "range" :=
  ⟨cx.gl rfl, cx.gl rfl⟩
theorem ok_law_pack {P : Program} {w : World} {K : Frg} {mg : Str → Option Value} {base : Heap} {f : Addr} {fd : FuncData} (F : L2.Fun K "_law_pack" "_law_pack" s_law_pack f fd) (d_law_draw : DefG P w K mg base "_law_draw" 1 ["coil", "bound"] [] pdDraw) (m_range : mg "range" = none) : FnD P w K mg base 2 f fd ["coil", "most", "far"] pdPack := by
  refine Fun.okD [.any, .mu, .any, .any] F sc_law_pack rfl rfl (fun rs M Φ Ξ ⟨_, _, _, _, _, e, _⟩ => by rw [e]; rfl) fun X hP hw hK hm hb cx hr rs M Φ Ξ h => ?_
  subst hP hw hK hm hb
  obtain ⟨v0, v1, v2, v3, v4, v5, v6⟩ := vs_law_pack cx
  obtain ⟨g_law_draw, g_range⟩ := gs_law_pack cx
  have c_law_draw := d_law_draw.df (show 1 ≤ 1 by decide)
  have nd := cx.nd
  have calm := cx.calm
  have gu := cx.gu
  have pass := cx.pass
  obtain ⟨c, k, M', mo, fa, rfl, hm1, hm2, hf1, hf2, hk, hc, q⟩ := h
  obtain ⟨Ma, Mb, e1, e2⟩ := hc.split
  subst e1 e2
  dsimp only [List.cons_append, List.nil_append]
  refine sq ?_
  repeat' walk_at "e"
  rename_i r1 _ _ r2 _ _ r3 _ _
  refine ix_menu (fun v => 2 ≤ v ∧ v < 10 ^ 31) (by omega) (by simp only [List.length_cons, List.length_nil]; omega) (.cons (by omega) (.cons (by omega) (.cons (by omega) (.cons (by omega) .nil)))) fun ring hring => ?_
  repeat' walk_at "e"
  rename_i p n hn0 hn1
  refine for_map (fun pre ρ M => ∃ (ps : List Int) (x y : Rv) (j : Nat), ρ = [.cell c, .d (.int mo), .d (.int fa), .d (.int ring), .cell p, x, y] ∧ M = (p, Is (rI ps)) :: (Ma ++ (c, Coil j) :: Mb) ∧ j ≤ k + 10 + 3 * pre.length ∧ ps.length = pre.length ∧ ∀ q ∈ ps, 0 ≤ q ∧ q < 10 ^ 32) ?_ ?_ ?_
  · exact ⟨[], _, _, _, rfl, rfl, by simp, rfl, fun q h => by cases h⟩
  · rintro pre x post ρ' M' e ⟨ps, y, z, j, rfl, rfl, hj, hl, hps⟩
    have el := congrArg List.length e
    rw [List.length_range, List.length_append, List.length_cons] at el
    repeat' walk_at "e"
    rename_i r4 _ _ r5 _ _ r6 _ _
    refine ix_menu (fun v => 0 ≤ v ∧ v < 10 ^ 32) (by omega) (by simp only [List.length_cons, List.length_nil]; omega) (.cons (by omega) (.cons (by omega) (.cons (by omega) (.cons (by omega) (.cons (by omega) .nil))))) fun v hv => ?_
    repeat' walk_at "e"
    refine ⟨ps ++ [v], _, _, j + 1 + 1 + 1, rfl, by rw [rI_app]; rfl, by simp; omega, by simp; omega, fun q hq => ?_⟩
    rcases List.mem_append.mp hq with hq | hq
    · exact hps q hq
    · rw [List.mem_singleton.mp hq]; exact hv
  · rintro ρ' M' ⟨ps, y, z, j, rfl, rfl, hj, hl, hps⟩
    rw [List.length_range] at hj hl
    refine frz_at (a := p) (i := 4) (ds := ps.map .int) (M2 := Ma ++ (c, Coil j) :: Mb) (by rw [rI_d]; exact .h) rfl ?_
    repeat' walk_at "e"
    exact ⟨_, Le.app (Coil.mono (by omega)), q ring ps hring.1 hring.2 (by omega) (by omega) hps⟩
end LW

namespace LW
/-- a state of plays: from the wheel ahead on -/
def Stand : Int → List Int → List Int → Prop
  | _, [], [] => True
  | a, p :: ps, x :: xs => x ≤ a ∧ a - x ≤ p ∧ Stand x ps xs
  | _, _, _ => False
theorem Stand.len : ∀ {a : Int} {ps xs : List Int}, Stand a ps xs → xs.length = ps.length
  | _, [], [], _ => rfl
  | _, _ :: _, _ :: _, h => by simp [Stand.len h.2.2]
  | _, [], _ :: _, h => h.elim
  | _, _ :: _, [], h => h.elim
theorem Stand.snoc : ∀ {a : Int} {ps xs : List Int} {p x : Int}, Stand a ps xs → x ≤ (xs.getLastD a) → (xs.getLastD a) - x ≤ p → Stand a (ps ++ [p]) (xs ++ [x])
  | _, [], [], _, _, _, h1, h2 => ⟨h1, h2, trivial⟩
  | _, _ :: _, y :: ys, _, _, h, h1, h2 => ⟨h.1, h.2.1, Stand.snoc h.2.2 (by rw [List.getLastD_cons] at h1; exact h1) (by rw [List.getLastD_cons] at h2; exact h2)⟩
  | _, [], _ :: _, _, _, h, _, _ => h.elim
  | _, _ :: _, [], _, _, h, _, _ => h.elim
def pdStand : Prom := fun rs M Φ _ => ∃ (c : Addr) (k : Nat) (M' : Mem) (ring : Int) (ps : List Int) (fa : Int), rs = [.cell c, .d (dP ring ps), .d (.int fa)] ∧ (∀ p ∈ ps, 0 ≤ p ∧ p < 10 ^ 32) ∧ ps.length ≤ 60 ∧ 0 ≤ fa ∧ fa ≤ 10 ^ 32 ∧ k ≤ 900000 ∧ Cell c (Coil k) (Coil (k + 200)) M M' ∧
  ∀ (dial : Int) (xs : List Int), -fa ≤ dial → dial ≤ fa → Stand dial ps xs → Φ (.d (dP dial xs)) M'
abbrev s_law_stand : Stmt := topS 29
theorem sc_law_stand : FnScope ["coil", "pack", "far", "knob", "spots", "ahead", "play"] ["coil", "pack", "far"] (defScope s_law_stand) := ⟨rfl, rfl, rfl, by decide +kernel, rfl, by decide +kernel, by decide +kernel⟩
theorem vs_law_stand {X : Cx} (cx : Cxt X ["coil", "pack", "far", "knob", "spots", "ahead", "play"] (defScope s_law_stand)) : Var X 0 "coil" ∧ Var X 1 "pack" ∧ Var X 2 "far" ∧ Var X 3 "knob" ∧ Var X 4 "spots" ∧ Var X 5 "ahead" ∧ Var X 6 "play" :=
  ⟨cx.var rfl (.inl rfl) (by decide) (by decide), cx.var rfl (.inl rfl) (by decide) (by decide), cx.var rfl (.inl rfl) (by decide) (by decide), cx.var rfl (.inl rfl) (by decide) (by decide), cx.var rfl (.inl rfl) (by decide) (by decide), cx.var rfl (.inl rfl) (by decide) (by decide), cx.var rfl (.inl rfl) (by decide) (by decide)⟩
theorem gs_law_stand {X : Cx} (cx : Cxt X ["coil", "pack", "far", "knob", "spots", "ahead", "play"] (defScope s_law_stand)) : Gl X "_law_draw" :=
  cx.gl rfl
theorem ok_law_stand {P : Program} {w : World} {K : Frg} {mg : Str → Option Value} {base : Heap} {f : Addr} {fd : FuncData} (F : L2.Fun K "_law_stand" "_law_stand" s_law_stand f fd) (d_law_draw : DefG P w K mg base "_law_draw" 1 ["coil", "bound"] [] pdDraw) : FnD P w K mg base 2 f fd ["coil", "pack", "far"] pdStand := by
  refine Fun.okD [.any, .mu, .any, .any] F sc_law_stand rfl rfl (fun rs M Φ Ξ ⟨_, _, _, _, _, _, e, _⟩ => by rw [e]; rfl) fun X hP hw hK hm hb cx hr rs M Φ Ξ h => ?_
  subst hP hw hK hm hb
  obtain ⟨v0, v1, v2, v3, v4, v5, v6⟩ := vs_law_stand cx
  have g_law_draw := gs_law_stand cx
  have c_law_draw := d_law_draw.df (show 1 ≤ 1 by decide)
  have nd := cx.nd
  have calm := cx.calm
  have gu := cx.gu
  have pass := cx.pass
  obtain ⟨c, k, M', ring, ps, fa, rfl, hps, hl, hf1, hf2, hk, hc, q⟩ := h
  obtain ⟨Ma, Mb, e1, e2⟩ := hc.split
  subst e1 e2
  dsimp only [List.cons_append, List.nil_append]
  refine sq ?_
  repeat' walk_at "e"
  rename_i r1 hr1 hr2 p
  refine for_ints (fun pre ρ M => ∃ (xs : List Int) (x : Rv) (j : Nat), ρ = [.cell c, .d (dP ring ps), .d (.int fa), .d (.int (r1 - fa)), .cell p, .d (.int (xs.getLastD (r1 - fa))), x] ∧ M = (p, Is (rI xs)) :: (Ma ++ (c, Coil j) :: Mb) ∧ j ≤ k + 2 + 2 * pre.length ∧ Stand (r1 - fa) pre xs) ?_ ?_ ?_
  · exact ⟨[], _, _, rfl, rfl, by simp, trivial⟩
  · rintro pre x post ρ' M' e ⟨xs, z, j, rfl, rfl, hj, hx⟩
    have hpx := hps x (by rw [e]; simp)
    have el := congrArg List.length e
    rw [List.length_append, List.length_cons] at el
    have hln := hx.len
    repeat' walk_at "e"
    rename_i r2 _ _ r3 _ _
    refine ix_menu (fun v => 0 ≤ v ∧ v ≤ x) (by omega) (by simp only [List.length_cons, List.length_nil]; omega) (.cons (by omega) (.cons (by omega) (.cons (by omega) .nil))) fun v hv => ?_
    repeat' walk_at "e"
    refine ⟨xs ++ [xs.getLastD (r1 - fa) - v], _, j + 1 + 1, by rw [List.getLastD_concat], by rw [rI_app]; rfl, by simp; omega, hx.snoc (by omega) (by omega)⟩
  · rintro ρ' M' ⟨xs, z, j, rfl, rfl, hj, hx⟩
    refine frz_at (a := p) (i := 4) (ds := xs.map .int) (M2 := Ma ++ (c, Coil j) :: Mb) (by rw [rI_d]; exact .h) rfl ?_
    repeat' walk_at "e"
    exact ⟨_, Le.app (Coil.mono (by omega)), q _ xs (by omega) (by omega) hx⟩
end LW

namespace LW
abbrev s_is_integer : Stmt := topS 9
theorem sc_is_integer : FnScope ["value"] ["value"] (defScope s_is_integer) := ⟨rfl, rfl, rfl, by decide +kernel, rfl, by decide +kernel, by decide +kernel⟩
theorem vs_is_integer {X : Cx} (cx : Cxt X ["value"] (defScope s_is_integer)) : Var X 0 "value" :=
  cx.var rfl (.inl rfl) (by decide) (by decide)
theorem gs_is_integer {X : Cx} (cx : Cxt X ["value"] (defScope s_is_integer)) : Gl X "isinstance" ∧ Gl X "int" ∧ Gl X "bool" :=
  ⟨cx.gl rfl, cx.gl rfl, cx.gl rfl⟩
theorem ok_is_integer {P : Program} {w : World} {K : Frg} {mg : Str → Option Value} {base : Heap} {f : Addr} {fd : FuncData} (F : L2.Fun K "is_integer" "is_integer" s_is_integer f fd) (m_isinstance : mg "isinstance" = none) (m_int : mg "int" = none) (m_bool : mg "bool" = none) : FnD P w K mg base 1 f fd ["value"] pdIsI := by
  refine Fun.okD [] F sc_is_integer rfl rfl (fun rs M Φ Ξ ⟨_, e, _⟩ => by rw [e]; rfl) fun X hP hw hK hm hb cx hr rs M Φ Ξ h => ?_
  subst hP hw hK hm hb
  have v0 := vs_is_integer cx
  obtain ⟨g_isinstance, g_int, g_bool⟩ := gs_is_integer cx
  have b_isinstance : Bi X "isinstance" (.builtin "isinstance") := .mk' m_isinstance (by first | exact PySem.boot_len | decide +kernel) (by decide) (by decide)
  have b_int : Bi X "int" (.type "int") := .mk' m_int (by decide +kernel) (by decide) (by decide)
  have b_bool : Bi X "bool" (.type "bool") := .mk' m_bool (by decide +kernel) (by decide) (by decide)
  have nd := cx.nd
  have calm := cx.calm
  have gu := cx.gu
  have pass := cx.pass
  obtain ⟨d, rfl, q⟩ := h
  cases d
  all_goals
    dsimp only [List.cons_append, List.nil_append]
    refine sq ?_
    repeat' walk_at "e"
  all_goals first | exact ⟨_, .refl M, q⟩ 
abbrev s_is_at_least : Stmt := topS 10
theorem sc_is_at_least : FnScope ["value", "least"] ["value", "least"] (defScope s_is_at_least) := ⟨rfl, rfl, rfl, by decide +kernel, rfl, by decide +kernel, by decide +kernel⟩
theorem vs_is_at_least {X : Cx} (cx : Cxt X ["value", "least"] (defScope s_is_at_least)) : Var X 0 "value" ∧ Var X 1 "least" :=
  ⟨cx.var rfl (.inl rfl) (by decide) (by decide), cx.var rfl (.inl rfl) (by decide) (by decide)⟩
theorem gs_is_at_least {X : Cx} (cx : Cxt X ["value", "least"] (defScope s_is_at_least)) : Gl X "is_integer" :=
  cx.gl rfl
theorem ok_is_at_least {P : Program} {w : World} {K : Frg} {mg : Str → Option Value} {base : Heap} {f : Addr} {fd : FuncData} (F : L2.Fun K "is_at_least" "is_at_least" s_is_at_least f fd) (d_is_integer : DefG P w K mg base "is_integer" 1 ["value"] [] pdIsI) : FnD P w K mg base 2 f fd ["value", "least"] pdAtL := by
  refine Fun.okD [] F sc_is_at_least rfl rfl (fun rs M Φ Ξ ⟨_, _, e, _⟩ => by rw [e]; rfl) fun X hP hw hK hm hb cx hr rs M Φ Ξ h => ?_
  subst hP hw hK hm hb
  obtain ⟨v0, v1⟩ := vs_is_at_least cx
  have g_is_integer := gs_is_at_least cx
  have c_is_integer := d_is_integer.df (show 1 ≤ 1 by decide)
  have nd := cx.nd
  have calm := cx.calm
  have gu := cx.gu
  have pass := cx.pass
  obtain ⟨d, k, rfl, q⟩ := h
  cases d
  all_goals
    dsimp only [List.cons_append, List.nil_append]
    refine sq ?_
    repeat' walk_at "e"
  all_goals first | exact ⟨_, .refl M, q⟩ 
abbrev s_is_turn : Stmt := topS 11
theorem sc_is_turn : FnScope ["value"] ["value"] (defScope s_is_turn) := ⟨rfl, rfl, rfl, by decide +kernel, rfl, by decide +kernel, by decide +kernel⟩
theorem vs_is_turn {X : Cx} (cx : Cxt X ["value"] (defScope s_is_turn)) : Var X 0 "value" :=
  cx.var rfl (.inl rfl) (by decide) (by decide)
theorem gs_is_turn {X : Cx} (cx : Cxt X ["value"] (defScope s_is_turn)) : Gl X "is_integer" :=
  cx.gl rfl
theorem ok_is_turn {P : Program} {w : World} {K : Frg} {mg : Str → Option Value} {base : Heap} {f : Addr} {fd : FuncData} (F : L2.Fun K "is_turn" "is_turn" s_is_turn f fd) (d_is_integer : DefG P w K mg base "is_integer" 1 ["value"] [] pdIsI) : FnD P w K mg base 2 f fd ["value"] pdIsT := by
  refine Fun.okD [] F sc_is_turn rfl rfl (fun rs M Φ Ξ ⟨_, e, _⟩ => by rw [e]; rfl) fun X hP hw hK hm hb cx hr rs M Φ Ξ h => ?_
  subst hP hw hK hm hb
  have v0 := vs_is_turn cx
  have g_is_integer := gs_is_turn cx
  have c_is_integer := d_is_integer.df (show 1 ≤ 1 by decide)
  have nd := cx.nd
  have calm := cx.calm
  have gu := cx.gu
  have pass := cx.pass
  obtain ⟨d, rfl, q⟩ := h
  cases d
  all_goals
    dsimp only [List.cons_append, List.nil_append]
    refine sq ?_
    repeat' walk_at "e"
  all_goals first | exact ⟨_, .refl M, q⟩ 
abbrev s_is_pair : Stmt := topS 12
theorem sc_is_pair : FnScope ["value"] ["value"] (defScope s_is_pair) := ⟨rfl, rfl, rfl, by decide +kernel, rfl, by decide +kernel, by decide +kernel⟩
theorem vs_is_pair {X : Cx} (cx : Cxt X ["value"] (defScope s_is_pair)) : Var X 0 "value" :=
  cx.var rfl (.inl rfl) (by decide) (by decide)
theorem gs_is_pair {X : Cx} (cx : Cxt X ["value"] (defScope s_is_pair)) : Gl X "isinstance" ∧ Gl X "tuple" ∧ Gl X "len" :=
  ⟨cx.gl rfl, cx.gl rfl, cx.gl rfl⟩
theorem ok_is_pair {P : Program} {w : World} {K : Frg} {mg : Str → Option Value} {base : Heap} {f : Addr} {fd : FuncData} (F : L2.Fun K "is_pair" "is_pair" s_is_pair f fd) (m_isinstance : mg "isinstance" = none) (m_tuple : mg "tuple" = none) (m_len : mg "len" = none) : FnD P w K mg base 1 f fd ["value"] pdIs2 := by
  refine Fun.okD [] F sc_is_pair rfl rfl (fun rs M Φ Ξ ⟨_, e, _⟩ => by rw [e]; rfl) fun X hP hw hK hm hb cx hr rs M Φ Ξ h => ?_
  subst hP hw hK hm hb
  have v0 := vs_is_pair cx
  obtain ⟨g_isinstance, g_tuple, g_len⟩ := gs_is_pair cx
  have b_isinstance : Bi X "isinstance" (.builtin "isinstance") := .mk' m_isinstance (by first | exact PySem.boot_len | decide +kernel) (by decide) (by decide)
  have b_tuple : Bi X "tuple" (.type "tuple") := .mk' m_tuple (by decide +kernel) (by decide) (by decide)
  have b_len : Bi X "len" (.builtin "len") := .mk' m_len (by first | exact PySem.boot_len | decide +kernel) (by decide) (by decide)
  have nd := cx.nd
  have calm := cx.calm
  have gu := cx.gu
  have pass := cx.pass
  obtain ⟨d, rfl, q⟩ := h
  cases d
  all_goals
    dsimp only [List.cons_append, List.nil_append]
    refine sq ?_
    repeat' walk_at "e"
  all_goals first | exact ⟨_, .refl M, q⟩ 
end LW

namespace LW
def pdPlays : Prom := fun rs M Φ _ => ∃ ps : List Int, rs = [.d (dI ps)] ∧ 1 ≤ ps.length ∧ ps.length ≤ 8 ∧ (∀ p ∈ ps, 0 ≤ p) ∧ Φ (.d (.bool true)) M
abbrev s_are_plays : Stmt := topS 13
theorem sc_are_plays : FnScope ["value", "play"] ["value"] (defScope s_are_plays) := ⟨rfl, rfl, rfl, by decide +kernel, rfl, by decide +kernel, by decide +kernel⟩
theorem vs_are_plays {X : Cx} (cx : Cxt X ["value", "play"] (defScope s_are_plays)) : Var X 0 "value" ∧ Nm X 1 "play" :=
  ⟨cx.var rfl (.inl rfl) (by decide) (by decide), cx.nm rfl⟩
theorem gs_are_plays {X : Cx} (cx : Cxt X ["value", "play"] (defScope s_are_plays)) : Gl X "isinstance" ∧ Gl X "list" ∧ Gl X "len" ∧ Gl X "MOST_WHEELS" ∧ Gl X "all" :=
  ⟨cx.gl rfl, cx.gl rfl, cx.gl rfl, cx.gl rfl, cx.gl rfl⟩
theorem ok_are_plays {P : Program} {w : World} {K : Frg} {mg : Str → Option Value} {base : Heap} {f : Addr} {fd : FuncData} (F : L2.Fun K "are_plays" "are_plays" s_are_plays f fd) (d_is_at_least : DefG P w K mg base "is_at_least" 2 ["value", "least"] [] pdAtL) (m_isinstance : mg "isinstance" = none) (m_list : mg "list" = none) (m_len : mg "len" = none) (m_all : mg "all" = none) (c_MOST_WHEELS : GloG mg "MOST_WHEELS" (.int 8)) : FnD P w K mg base 3 f fd ["value"] pdPlays := by
  refine Fun.okD [.any] F sc_are_plays rfl rfl (fun rs M Φ Ξ ⟨_, e, _⟩ => by rw [e]; rfl) fun X hP hw hK hm hb cx hr rs M Φ Ξ h => ?_
  subst hP hw hK hm hb
  obtain ⟨v0, v1⟩ := vs_are_plays cx
  obtain ⟨g_isinstance, g_list, g_len, g_MOST_WHEELS, g_all⟩ := gs_are_plays cx
  have c_is_at_least := d_is_at_least.df (show 2 ≤ 2 by decide)
  have b_isinstance : Bi X "isinstance" (.builtin "isinstance") := .mk' m_isinstance (by first | exact PySem.boot_len | decide +kernel) (by decide) (by decide)
  have b_list : Bi X "list" (.type "list") := .mk' m_list (by decide +kernel) (by decide) (by decide)
  have b_len : Bi X "len" (.builtin "len") := .mk' m_len (by first | exact PySem.boot_len | decide +kernel) (by decide) (by decide)
  have b_all : Bi X "all" (.builtin "all") := .mk' m_all (by first | exact PySem.boot_len | decide +kernel) (by decide) (by decide)
  have k_MOST_WHEELS := c_MOST_WHEELS.glo
  have nd := cx.nd
  have calm := cx.calm
  have gu := cx.gu
  have pass := cx.pass
  obtain ⟨ps, rfl, h1, h2, h3, q⟩ := h
  have z : (8 : Int) = 8 := rfl
  dsimp only [List.cons_append, List.nil_append]
  refine sq ?_
  repeat' walk_at "e"
  refine ge_lc [("play", 1)] (.inl rfl) (by simp) calm nd ?_ ?_ ?_
  · exact cx.blk (by decide +kernel)
  · intro _; rfl
  repeat' walk_at "e"
  rw [rI_d]
  refine compD_map (f := fun i => .bool true) (szL (by omega)) (fun x hx => ?_) ?_
  · have h0 := h3 x hx
    repeat' walk_at "e"
    exact ⟨by simp [atL]; omega, rfl⟩
  · refine ⟨(ps.map fun _ => true).map PyData.bool, by simp, ?_⟩
    repeat' walk_at "e"
    rw [show (List.map (fun _ => true) ps).all id = true by simp]
    exact ⟨_, .refl _, q⟩
def pdPlaces : Prom := fun rs M Φ _ => ∃ (ps xs : List Int) (a : Int), rs = [.d (dI ps), .d (.int a), .d (dI xs)] ∧ ps.length ≤ 60 ∧ Stand a ps xs ∧ Φ (.d (.bool true)) M
abbrev s_are_places : Stmt := topS 14
theorem sc_are_places : FnScope ["plays", "dial", "value", "ahead", "play", "place"] ["plays", "dial", "value"] (defScope s_are_places) := ⟨rfl, rfl, rfl, by decide +kernel, rfl, by decide +kernel, by decide +kernel⟩
theorem vs_are_places {X : Cx} (cx : Cxt X ["plays", "dial", "value", "ahead", "play", "place"] (defScope s_are_places)) : Var X 0 "plays" ∧ Var X 1 "dial" ∧ Var X 2 "value" ∧ Var X 3 "ahead" ∧ Var X 4 "play" ∧ Var X 5 "place" :=
  ⟨cx.var rfl (.inl rfl) (by decide) (by decide), cx.var rfl (.inl rfl) (by decide) (by decide), cx.var rfl (.inl rfl) (by decide) (by decide), cx.var rfl (.inl rfl) (by decide) (by decide), cx.var rfl (.inl rfl) (by decide) (by decide), cx.var rfl (.inl rfl) (by decide) (by decide)⟩
theorem gs_are_places {X : Cx} (cx : Cxt X ["plays", "dial", "value", "ahead", "play", "place"] (defScope s_are_places)) : Gl X "isinstance" ∧ Gl X "list" ∧ Gl X "len" ∧ Gl X "zip" ∧ Gl X "is_integer" :=
  ⟨cx.gl rfl, cx.gl rfl, cx.gl rfl, cx.gl rfl, cx.gl rfl⟩
theorem ok_are_places {P : Program} {w : World} {K : Frg} {mg : Str → Option Value} {base : Heap} {f : Addr} {fd : FuncData} (F : L2.Fun K "are_places" "are_places" s_are_places f fd) (d_is_integer : DefG P w K mg base "is_integer" 1 ["value"] [] pdIsI) (m_isinstance : mg "isinstance" = none) (m_list : mg "list" = none) (m_len : mg "len" = none) (m_zip : mg "zip" = none) : FnD P w K mg base 2 f fd ["plays", "dial", "value"] pdPlaces := by
  refine Fun.okD [.any, .any, .any] F sc_are_places rfl rfl (fun rs M Φ Ξ ⟨_, _, _, e, _⟩ => by rw [e]; rfl) fun X hP hw hK hm hb cx hr rs M Φ Ξ h => ?_
  subst hP hw hK hm hb
  obtain ⟨v0, v1, v2, v3, v4, v5⟩ := vs_are_places cx
  obtain ⟨g_isinstance, g_list, g_len, g_zip, g_is_integer⟩ := gs_are_places cx
  have c_is_integer := d_is_integer.df (show 1 ≤ 1 by decide)
  have b_isinstance : Bi X "isinstance" (.builtin "isinstance") := .mk' m_isinstance (by first | exact PySem.boot_len | decide +kernel) (by decide) (by decide)
  have b_list : Bi X "list" (.type "list") := .mk' m_list (by decide +kernel) (by decide) (by decide)
  have b_len : Bi X "len" (.builtin "len") := .mk' m_len (by first | exact PySem.boot_len | decide +kernel) (by decide) (by decide)
  have nd := cx.nd
  have calm := cx.calm
  have gu := cx.gu
  have pass := cx.pass
  obtain ⟨ps, xs, a, rfl, h1, h2, q⟩ := h
  have hl := h2.len
  dsimp only [List.cons_append, List.nil_append]
  refine sq ?_
  repeat' walk_at "e"
  rw [zip_ints]
  refine for_map (fun pre ρ M' => M' = M ∧ ∃ (b : Int) (x y : Rv), ρ = [.d (dI ps), .d (.int a), .d (dI xs), .d (.int b), x, y] ∧ ∃ qs ys, (ps.zip xs) = pre ++ qs.zip ys ∧ Stand b qs ys) ?_ ?_ ?_
  · exact ⟨rfl, a, _, _, rfl, ps, xs, rfl, h2⟩
  · rintro pre x post ρ' M' e ⟨rfl, b, y, z, rfl, qs, ys, e2, hs⟩
    rw [e] at e2
    have e3 := List.append_cancel_left e2
    cases qs with
    | nil => simp at e3
    | cons p qs => cases ys with
      | nil => simp at e3
      | cons t ys =>
        rw [List.zip_cons_cons, List.cons.injEq] at e3
        obtain ⟨rfl, e4⟩ := e3
        obtain ⟨s1, s2, s3⟩ := hs
        repeat' walk_at "e"
        exact ⟨rfl, t, _, _, rfl, qs, ys, by rw [e, e4]; simp, s3⟩
  · rintro ρ' M' ⟨rfl, b, y, z, rfl, _⟩
    repeat' walk_at "e"
    exact ⟨_, .refl _, q⟩
end LW

namespace LW
theorem use_plays {ps : List Int} {Φ : Pst} {Ξ : EV → Mem → Prop} {M : Mem} (h1 : 1 ≤ ps.length) (h2 : ps.length ≤ 8) (h3 : ∀ p ∈ ps, 0 ≤ p) (h : Φ (.d (.bool true)) M) : pdPlays [.d (dI ps)] M Φ Ξ := ⟨ps, rfl, h1, h2, h3, h⟩
theorem use_places {ps xs : List Int} {a : Int} {Φ : Pst} {Ξ : EV → Mem → Prop} {M : Mem} (h1 : ps.length ≤ 60) (h2 : Stand a ps xs) (h : Φ (.d (.bool true)) M) : pdPlaces [.d (dI ps), .d (.int a), .d (dI xs)] M Φ Ξ := ⟨ps, xs, a, rfl, h1, h2, h⟩
local macro_rules | `(tactic| walk_at "ex") => `(tactic| first
  | ((with_reducible apply use_plays); (case h1 => with_reducible assumption); (case h2 => with_reducible assumption); (case h3 => with_reducible assumption))
  | ((with_reducible apply use_places); (case h1 => with_reducible assumption); (case h2 => with_reducible assumption))
  | fail "stuck")
theorem enum_ints (ts : List Int) : ((ts.map PyData.int).zipIdx).map (fun p => Rv.d (.tuple [.int p.2, p.1])) = ts.zipIdx.map (fun p => Rv.d (.tuple [.int p.2, .int p.1])) := by
  rw [List.zipIdx_map, List.map_map]; rfl
def Plays (ps : List Int) : Prop := 1 ≤ ps.length ∧ ps.length ≤ 8 ∧ ∀ p ∈ ps, 0 ≤ p
def pdLock : Prom := fun rs M Φ _ => ∃ (ring : Int) (ps : List Int), rs = [.d (dP ring ps)] ∧ 2 ≤ ring ∧ Plays ps ∧ Φ (.d .none) M
abbrev s_check_lock : Stmt := topS 15
theorem sc_check_lock : FnScope ["lock", "ring", "plays"] ["lock"] (defScope s_check_lock) := ⟨rfl, rfl, rfl, by decide +kernel, rfl, by decide +kernel, by decide +kernel⟩
theorem vs_check_lock {X : Cx} (cx : Cxt X ["lock", "ring", "plays"] (defScope s_check_lock)) : Var X 0 "lock" ∧ Var X 1 "ring" ∧ Var X 2 "plays" :=
  ⟨cx.var rfl (.inl rfl) (by decide) (by decide), cx.var rfl (.inl rfl) (by decide) (by decide), cx.var rfl (.inl rfl) (by decide) (by decide)⟩
theorem gs_check_lock {X : Cx} (cx : Cxt X ["lock", "ring", "plays"] (defScope s_check_lock)) : Gl X "is_pair" ∧ Gl X "InvalidLock" ∧ Gl X "is_at_least" ∧ Gl X "LEAST_RING" ∧ Gl X "are_plays" :=
  ⟨cx.gl rfl, cx.gl rfl, cx.gl rfl, cx.gl rfl, cx.gl rfl⟩
theorem ok_check_lock {P : Program} {w : World} {K : Frg} {mg : Str → Option Value} {base : Heap} {f : Addr} {fd : FuncData} (F : L2.Fun K "check_lock" "check_lock" s_check_lock f fd) (d_is_pair : DefG P w K mg base "is_pair" 1 ["value"] [] pdIs2) (d_is_at_least : DefG P w K mg base "is_at_least" 2 ["value", "least"] [] pdAtL) (d_are_plays : DefG P w K mg base "are_plays" 3 ["value"] [] pdPlays) (c_LEAST_RING : GloG mg "LEAST_RING" (.int 2)) : FnD P w K mg base 4 f fd ["lock"] pdLock := by
  refine Fun.okD [.any, .any] F sc_check_lock rfl rfl (fun rs M Φ Ξ ⟨_, _, e, _⟩ => by rw [e]; rfl) fun X hP hw hK hm hb cx hr rs M Φ Ξ h => ?_
  subst hP hw hK hm hb
  obtain ⟨v0, v1, v2⟩ := vs_check_lock cx
  obtain ⟨g_is_pair, g_InvalidLock, g_is_at_least, g_LEAST_RING, g_are_plays⟩ := gs_check_lock cx
  have c_is_pair := d_is_pair.df (show 1 ≤ 3 by decide)
  have c_is_at_least := d_is_at_least.df (show 2 ≤ 3 by decide)
  have c_are_plays := d_are_plays.df (show 3 ≤ 3 by decide)
  have k_LEAST_RING := c_LEAST_RING.glo
  have nd := cx.nd
  have calm := cx.calm
  have gu := cx.gu
  have pass := cx.pass
  obtain ⟨ring, ps, rfl, hr2, ⟨h1, h2, h3⟩, q⟩ := h
  dsimp only [List.cons_append, List.nil_append]
  refine sq ?_
  repeat' walk_at "e"
  · rename_i hh; exact absurd rfl hh
  · exact q
def pdState : Prom := fun rs M Φ _ => ∃ (ring : Int) (ps xs : List Int) (a : Int), rs = [.d (dP ring ps), .d (dP a xs)] ∧ ps.length ≤ 60 ∧ Stand a ps xs ∧ Φ (.d .none) M
abbrev s_check_state : Stmt := topS 16
theorem sc_check_state : FnScope ["lock", "state", "dial", "places"] ["lock", "state"] (defScope s_check_state) := ⟨rfl, rfl, rfl, by decide +kernel, rfl, by decide +kernel, by decide +kernel⟩
theorem vs_check_state {X : Cx} (cx : Cxt X ["lock", "state", "dial", "places"] (defScope s_check_state)) : Var X 0 "lock" ∧ Var X 1 "state" ∧ Var X 2 "dial" ∧ Var X 3 "places" :=
  ⟨cx.var rfl (.inl rfl) (by decide) (by decide), cx.var rfl (.inl rfl) (by decide) (by decide), cx.var rfl (.inl rfl) (by decide) (by decide), cx.var rfl (.inl rfl) (by decide) (by decide)⟩
theorem gs_check_state {X : Cx} (cx : Cxt X ["lock", "state", "dial", "places"] (defScope s_check_state)) : Gl X "is_pair" ∧ Gl X "InvalidState" ∧ Gl X "is_integer" ∧ Gl X "are_places" :=
  ⟨cx.gl rfl, cx.gl rfl, cx.gl rfl, cx.gl rfl⟩
theorem ok_check_state {P : Program} {w : World} {K : Frg} {mg : Str → Option Value} {base : Heap} {f : Addr} {fd : FuncData} (F : L2.Fun K "check_state" "check_state" s_check_state f fd) (d_is_pair : DefG P w K mg base "is_pair" 1 ["value"] [] pdIs2) (d_is_integer : DefG P w K mg base "is_integer" 1 ["value"] [] pdIsI) (d_are_places : DefG P w K mg base "are_places" 2 ["plays", "dial", "value"] [] pdPlaces) : FnD P w K mg base 3 f fd ["lock", "state"] pdState := by
  refine Fun.okD [.any, .any] F sc_check_state rfl rfl (fun rs M Φ Ξ ⟨_, _, _, _, e, _⟩ => by rw [e]; rfl) fun X hP hw hK hm hb cx hr rs M Φ Ξ h => ?_
  subst hP hw hK hm hb
  obtain ⟨v0, v1, v2, v3⟩ := vs_check_state cx
  obtain ⟨g_is_pair, g_InvalidState, g_is_integer, g_are_places⟩ := gs_check_state cx
  have c_is_pair := d_is_pair.df (show 1 ≤ 2 by decide)
  have c_is_integer := d_is_integer.df (show 1 ≤ 2 by decide)
  have c_are_places := d_are_places.df (show 2 ≤ 2 by decide)
  have nd := cx.nd
  have calm := cx.calm
  have gu := cx.gu
  have pass := cx.pass
  obtain ⟨ring, ps, xs, a, rfl, h1, h2, q⟩ := h
  dsimp only [List.cons_append, List.nil_append]
  refine sq ?_
  repeat' walk_at "e"
  · rename_i hh; exact absurd rfl hh
  · exact q
def pdTurns : Prom := fun rs M Φ _ => ∃ ts : List Int, rs = [.d (dI ts)] ∧ ts.length ≤ 60 ∧ (∀ t ∈ ts, t ≠ 0) ∧ Φ (.d .none) M
abbrev s_check_turns : Stmt := topS 17
theorem sc_check_turns : FnScope ["turns", "index", "turn"] ["turns"] (defScope s_check_turns) := ⟨rfl, rfl, rfl, by decide +kernel, rfl, by decide +kernel, by decide +kernel⟩
theorem vs_check_turns {X : Cx} (cx : Cxt X ["turns", "index", "turn"] (defScope s_check_turns)) : Var X 0 "turns" ∧ Var X 1 "index" ∧ Var X 2 "turn" :=
  ⟨cx.var rfl (.inl rfl) (by decide) (by decide), cx.var rfl (.inl rfl) (by decide) (by decide), cx.var rfl (.inl rfl) (by decide) (by decide)⟩
theorem gs_check_turns {X : Cx} (cx : Cxt X ["turns", "index", "turn"] (defScope s_check_turns)) : Gl X "isinstance" ∧ Gl X "list" ∧ Gl X "len" ∧ Gl X "MOST_TURNS" ∧ Gl X "InvalidTurns" ∧ Gl X "enumerate" ∧ Gl X "is_turn" :=
  ⟨cx.gl rfl, cx.gl rfl, cx.gl rfl, cx.gl rfl, cx.gl rfl, cx.gl rfl, cx.gl rfl⟩
theorem ok_check_turns {P : Program} {w : World} {K : Frg} {mg : Str → Option Value} {base : Heap} {f : Addr} {fd : FuncData} (F : L2.Fun K "check_turns" "check_turns" s_check_turns f fd) (d_is_turn : DefG P w K mg base "is_turn" 2 ["value"] [] pdIsT) (m_isinstance : mg "isinstance" = none) (m_list : mg "list" = none) (m_len : mg "len" = none) (m_enumerate : mg "enumerate" = none) (c_MOST_TURNS : GloG mg "MOST_TURNS" (.int 60)) : FnD P w K mg base 3 f fd ["turns"] pdTurns := by
  refine Fun.okD [.any, .any] F sc_check_turns rfl rfl (fun rs M Φ Ξ ⟨_, e, _⟩ => by rw [e]; rfl) fun X hP hw hK hm hb cx hr rs M Φ Ξ h => ?_
  subst hP hw hK hm hb
  obtain ⟨v0, v1, v2⟩ := vs_check_turns cx
  obtain ⟨g_isinstance, g_list, g_len, g_MOST_TURNS, g_InvalidTurns, g_enumerate, g_is_turn⟩ := gs_check_turns cx
  have c_is_turn := d_is_turn.df (show 2 ≤ 2 by decide)
  have b_isinstance : Bi X "isinstance" (.builtin "isinstance") := .mk' m_isinstance (by first | exact PySem.boot_len | decide +kernel) (by decide) (by decide)
  have b_list : Bi X "list" (.type "list") := .mk' m_list (by decide +kernel) (by decide) (by decide)
  have b_len : Bi X "len" (.builtin "len") := .mk' m_len (by first | exact PySem.boot_len | decide +kernel) (by decide) (by decide)
  have k_MOST_TURNS := c_MOST_TURNS.glo
  have nd := cx.nd
  have calm := cx.calm
  have gu := cx.gu
  have pass := cx.pass
  obtain ⟨ts, rfl, h1, h2, q⟩ := h
  dsimp only [List.cons_append, List.nil_append]
  refine sq ?_
  repeat' walk_at "e"
  refine ⟨ts.map .int, rfl, ?_⟩
  rw [enum_ints]
  refine for_map (fun pre ρ M' => M' = M ∧ ∃ (x y : Rv), ρ = [.d (dI ts), x, y]) ?_ ?_ ?_
  · exact ⟨rfl, _, _, rfl⟩
  · rintro pre ⟨x, j⟩ post ρ' M' e ⟨rfl, y, z, rfl⟩
    have hx : x ∈ ts := List.fst_mem_of_mem_zipIdx (x := (x, j)) (by rw [e]; simp)
    have h0 := h2 x hx
    repeat' walk_at "e"
    exact ⟨rfl, _, _, rfl⟩
  · rintro ρ' M' ⟨rfl, y, z, rfl⟩
    repeat' walk_at "e"
    exact q
end LW

namespace LW
/-- the places behind one turn -/
def pushL (t : Int) : Int → List Int → List Int → List Int
  | a, p :: ps, x :: xs => (if 0 < t then max x (a - p) else min x a) :: pushL t (if 0 < t then max x (a - p) else min x a) ps xs
  | _, _, _ => []
theorem pushL_nil {t a : Int} {qs ys : List Int} (h : qs.zip ys = []) : pushL t a qs ys = [] := by
  cases qs with
  | nil => rfl
  | cons p qs => cases ys with
    | nil => rfl
    | cons x ys => simp at h
theorem pushL_len {t : Int} : ∀ {a : Int} {ps xs : List Int}, (pushL t a ps xs).length = min ps.length xs.length
  | _, [], [] => rfl
  | _, [], _ :: _ => by simp [pushL]
  | _, _ :: _, [] => by simp [pushL]
  | _, _ :: ps, _ :: xs => by simp [pushL, pushL_len (ps := ps) (xs := xs), Nat.add_min_add_right]
def pdOnce : Prom := fun rs M Φ _ => ∃ (ring : Int) (ps xs : List Int) (d t : Int), rs = [.d (dP ring ps), .d (dP d xs), .d (.int t)] ∧ ps.length ≤ 60 ∧ Φ (.d (dP (d + t) (pushL t (d + t) ps xs))) M
abbrev s_turned_once : Stmt := topS 19
theorem sc_turned_once : FnScope ["lock", "state", "turn", "dial", "places", "new_dial", "new_places", "ahead", "play", "place"] ["lock", "state", "turn"] (defScope s_turned_once) := ⟨rfl, rfl, rfl, by decide +kernel, rfl, by decide +kernel, by decide +kernel⟩
theorem vs_turned_once {X : Cx} (cx : Cxt X ["lock", "state", "turn", "dial", "places", "new_dial", "new_places", "ahead", "play", "place"] (defScope s_turned_once)) : Var X 0 "lock" ∧ Var X 1 "state" ∧ Var X 2 "turn" ∧ Var X 3 "dial" ∧ Var X 4 "places" ∧ Var X 5 "new_dial" ∧ Var X 6 "new_places" ∧ Var X 7 "ahead" ∧ Var X 8 "play" ∧ Var X 9 "place" :=
  ⟨cx.var rfl (.inl rfl) (by decide) (by decide), cx.var rfl (.inl rfl) (by decide) (by decide), cx.var rfl (.inl rfl) (by decide) (by decide), cx.var rfl (.inl rfl) (by decide) (by decide), cx.var rfl (.inl rfl) (by decide) (by decide), cx.var rfl (.inl rfl) (by decide) (by decide), cx.var rfl (.inl rfl) (by decide) (by decide), cx.var rfl (.inl rfl) (by decide) (by decide), cx.var rfl (.inl rfl) (by decide) (by decide), cx.var rfl (.inl rfl) (by decide) (by decide)⟩
theorem gs_turned_once {X : Cx} (cx : Cxt X ["lock", "state", "turn", "dial", "places", "new_dial", "new_places", "ahead", "play", "place"] (defScope s_turned_once)) : Gl X "zip" ∧ Gl X "max" ∧ Gl X "min" :=
  ⟨cx.gl rfl, cx.gl rfl, cx.gl rfl⟩
theorem ok_turned_once {P : Program} {w : World} {K : Frg} {mg : Str → Option Value} {base : Heap} {f : Addr} {fd : FuncData} (F : L2.Fun K "_turned_once" "_turned_once" s_turned_once f fd) (m_zip : mg "zip" = none) (m_max : mg "max" = none) (m_min : mg "min" = none) : FnD P w K mg base 1 f fd ["lock", "state", "turn"] pdOnce := by
  refine Fun.okD [.any, .any, .any, .mu, .any, .any, .any] F sc_turned_once rfl rfl (fun rs M Φ Ξ ⟨_, _, _, _, _, e, _⟩ => by rw [e]; rfl) fun X hP hw hK hm hb cx hr rs M Φ Ξ h => ?_
  subst hP hw hK hm hb
  obtain ⟨v0, v1, v2, v3, v4, v5, v6, v7, v8, v9⟩ := vs_turned_once cx
  obtain ⟨g_zip, g_max, g_min⟩ := gs_turned_once cx
  have b_max : Bi X "max" (.builtin "max") := .mk' m_max (by first | exact PySem.boot_len | decide +kernel) (by decide) (by decide)
  have b_min : Bi X "min" (.builtin "min") := .mk' m_min (by first | exact PySem.boot_len | decide +kernel) (by decide) (by decide)
  have nd := cx.nd
  have calm := cx.calm
  have gu := cx.gu
  have pass := cx.pass
  obtain ⟨ring, ps, xs, d, t, rfl, h1, q⟩ := h
  dsimp only [List.cons_append, List.nil_append]
  refine sq ?_
  repeat' walk_at "e"
  rename_i p
  rw [zip_ints]
  refine for_map (fun pre ρ M' => ∃ (b : Int) (x y : Rv) (zs qs ys : List Int), ρ = [.d (dP ring ps), .d (dP d xs), .d (.int t), .d (.int d), .d (dI xs), .d (.int (d + t)), .cell p, .d (.int b), x, y] ∧ M' = (p, Is (rI zs)) :: M ∧ ps.zip xs = pre ++ qs.zip ys ∧ zs.length = pre.length ∧ pushL t (d + t) ps xs = zs ++ pushL t b qs ys) ?_ ?_ ?_
  · exact ⟨_, _, _, [], ps, xs, rfl, rfl, rfl, rfl, rfl⟩
  · rintro pre x post ρ' M' e ⟨b, y, z, zs, qs, ys, rfl, rfl, e2, el, e5⟩
    rw [e] at e2
    have e3 := List.append_cancel_left e2
    have e6 := congrArg List.length e
    rw [List.length_zip, List.length_append, List.length_cons] at e6
    cases qs with
    | nil => simp at e3
    | cons p qs => cases ys with
      | nil => simp at e3
      | cons x ys =>
        rw [List.zip_cons_cons, List.cons.injEq] at e3
        obtain ⟨rfl, e4⟩ := e3
        repeat' walk_at "e"
        · rename_i ht
          exact ⟨_, _, _, zs ++ [_], qs, ys, rfl, by rw [rI_app]; rfl, by rw [e, e4]; simp, by simp [el], by rw [e5, pushL, if_pos ht]; simp⟩
        · rename_i ht
          exact ⟨_, _, _, zs ++ [_], qs, ys, rfl, by rw [rI_app]; rfl, by rw [e, e4]; simp, by simp [el], by rw [e5, pushL, if_neg ht]; simp⟩
  · rintro ρ' M' ⟨b, y, z, zs, qs, ys, rfl, rfl, e2, el, e5⟩
    have e3 : qs.zip ys = [] := by
      have := congrArg List.length e2
      rw [List.length_append] at this
      exact List.eq_nil_of_length_eq_zero (by omega)
    rw [pushL_nil e3, List.append_nil] at e5
    refine frz_at (a := p) (i := 6) (ds := zs.map .int) (M2 := M) (by rw [rI_d]; exact .h) rfl ?_
    repeat' walk_at "e"
    exact ⟨_, .refl _, by rw [← e5]; exact q⟩
theorem use_once {ring : Int} {ps xs : List Int} {d t : Int} {M : Mem} {Φ : Pst} {Ξ : EV → Mem → Prop} (h1 : ps.length ≤ 60) (h : Φ (.d (dP (d + t) (pushL t (d + t) ps xs))) M) : pdOnce [.d (dP ring ps), .d (dP d xs), .d (.int t)] M Φ Ξ := ⟨ring, ps, xs, d, t, rfl, h1, h⟩
theorem use_lock {ring : Int} {ps : List Int} {M : Mem} {Φ : Pst} {Ξ : EV → Mem → Prop} (h1 : 2 ≤ ring) (h2 : Plays ps) (h : Φ (.d .none) M) : pdLock [.d (dP ring ps)] M Φ Ξ := ⟨ring, ps, rfl, h1, h2, h⟩
theorem use_state {ring : Int} {ps xs : List Int} {a : Int} {M : Mem} {Φ : Pst} {Ξ : EV → Mem → Prop} (h1 : ps.length ≤ 60) (h2 : Stand a ps xs) (h : Φ (.d .none) M) : pdState [.d (dP ring ps), .d (dP a xs)] M Φ Ξ := ⟨ring, ps, xs, a, rfl, h1, h2, h⟩
theorem use_turns {ts : List Int} {M : Mem} {Φ : Pst} {Ξ : EV → Mem → Prop} (h1 : ts.length ≤ 60) (h2 : ∀ t ∈ ts, t ≠ 0) (h : Φ (.d .none) M) : pdTurns [.d (dI ts)] M Φ Ξ := ⟨ts, rfl, h1, h2, h⟩
local macro_rules | `(tactic| walk_at "ex") => `(tactic| first
  | ((with_reducible apply use_once); (case h1 => with_reducible assumption))
  | ((with_reducible apply use_lock); (case h1 => with_reducible assumption); (case h2 => with_reducible assumption))
  | ((with_reducible apply use_state); (case h1 => with_reducible assumption); (case h2 => with_reducible assumption))
  | ((with_reducible apply use_turns); (case h1 => with_reducible assumption); (case h2 => with_reducible assumption))
  | fail "stuck")
/-- the states behind each of some turns -/
def trailL (ps : List Int) : Int → List Int → List Int → List PyData
  | _, _, [] => []
  | d, xs, t :: ts => dP (d + t) (pushL t (d + t) ps xs) :: trailL ps (d + t) (pushL t (d + t) ps xs) ts
def pdTrail : Prom := fun rs M Φ _ => ∃ (ring : Int) (ps xs ts : List Int) (d : Int), rs = [.d (dP ring ps), .d (dP d xs), .d (dI ts)] ∧ 2 ≤ ring ∧ Plays ps ∧ Stand d ps xs ∧ ts.length ≤ 60 ∧ (∀ t ∈ ts, t ≠ 0) ∧ Φ (.d (.list (trailL ps d xs ts))) M
abbrev s_state_trail : Stmt := topS 21
theorem sc_state_trail : FnScope ["lock", "state", "turns", "trail", "behind", "turn"] ["lock", "state", "turns"] (defScope s_state_trail) := ⟨rfl, rfl, rfl, by decide +kernel, rfl, by decide +kernel, by decide +kernel⟩
theorem vs_state_trail {X : Cx} (cx : Cxt X ["lock", "state", "turns", "trail", "behind", "turn"] (defScope s_state_trail)) : Var X 0 "lock" ∧ Var X 1 "state" ∧ Var X 2 "turns" ∧ Var X 3 "trail" ∧ Var X 4 "behind" ∧ Var X 5 "turn" :=
  ⟨cx.var rfl (.inl rfl) (by decide) (by decide), cx.var rfl (.inl rfl) (by decide) (by decide), cx.var rfl (.inl rfl) (by decide) (by decide), cx.var rfl (.inl rfl) (by decide) (by decide), cx.var rfl (.inl rfl) (by decide) (by decide), cx.var rfl (.inl rfl) (by decide) (by decide)⟩
theorem gs_state_trail {X : Cx} (cx : Cxt X ["lock", "state", "turns", "trail", "behind", "turn"] (defScope s_state_trail)) : Gl X "check_lock" ∧ Gl X "check_state" ∧ Gl X "check_turns" ∧ Gl X "_turned_once" :=
  ⟨cx.gl rfl, cx.gl rfl, cx.gl rfl, cx.gl rfl⟩
theorem ok_state_trail {P : Program} {w : World} {K : Frg} {mg : Str → Option Value} {base : Heap} {f : Addr} {fd : FuncData} (F : L2.Fun K "state_trail" "state_trail" s_state_trail f fd) (d_check_lock : DefG P w K mg base "check_lock" 4 ["lock"] [] pdLock) (d_check_state : DefG P w K mg base "check_state" 3 ["lock", "state"] [] pdState) (d_check_turns : DefG P w K mg base "check_turns" 3 ["turns"] [] pdTurns) (d_turned_once : DefG P w K mg base "_turned_once" 1 ["lock", "state", "turn"] [] pdOnce) : FnD P w K mg base 5 f fd ["lock", "state", "turns"] pdTrail := by
  refine Fun.okD [.mu, .any, .any] F sc_state_trail rfl rfl (fun rs M Φ Ξ ⟨_, _, _, _, _, e, _⟩ => by rw [e]; rfl) fun X hP hw hK hm hb cx hr rs M Φ Ξ h => ?_
  subst hP hw hK hm hb
  obtain ⟨v0, v1, v2, v3, v4, v5⟩ := vs_state_trail cx
  obtain ⟨g_check_lock, g_check_state, g_check_turns, g_turned_once⟩ := gs_state_trail cx
  have c_check_lock := d_check_lock.df (show 4 ≤ 4 by decide)
  have c_check_state := d_check_state.df (show 3 ≤ 4 by decide)
  have c_check_turns := d_check_turns.df (show 3 ≤ 4 by decide)
  have c_turned_once := d_turned_once.df (show 1 ≤ 4 by decide)
  have nd := cx.nd
  have calm := cx.calm
  have gu := cx.gu
  have pass := cx.pass
  obtain ⟨ring, ps, xs, ts, d, rfl, h1, h2, h3, h4, h5, q⟩ := h
  have h6 : ps.length ≤ 60 := by have := h2.2.1; omega
  dsimp only [List.cons_append, List.nil_append]
  refine sq ?_
  repeat' walk_at "e"
  rename_i p
  refine for_ints (fun pre ρ M' => ∃ (a : Int) (ys : List Int) (y : Rv) (zs : List PyData) (us : List Int), ρ = [.d (dP ring ps), .d (dP d xs), .d (dI ts), .cell p, .d (dP a ys), y] ∧ M' = (p, Is (zs.map .d)) :: M ∧ ts = pre ++ us ∧ zs.length = pre.length ∧ trailL ps d xs ts = zs ++ trailL ps a ys us) ?_ ?_ ?_
  · exact ⟨_, _, _, [], ts, rfl, rfl, rfl, rfl, rfl⟩
  · rintro pre x post ρ' M' e ⟨a, ys, y, zs, us, rfl, rfl, e2, el, e5⟩
    have e6 := congrArg List.length e
    rw [List.length_append, List.length_cons] at e6
    have e3 : us = x :: post := List.append_cancel_left (e2.symm.trans e)
    subst e3
    repeat' walk_at "e"
    exact ⟨_, _, _, zs ++ [_], post, rfl, by rw [List.map_append]; rfl, by rw [e]; simp, by simp [el], by rw [e5, trailL]; simp⟩
  · rintro ρ' M' ⟨a, ys, y, zs, us, rfl, rfl, e2, el, e5⟩
    have e3 : us = [] := List.append_cancel_left (e2.symm.trans (List.append_nil _).symm)
    subst e3
    rw [trailL, List.append_nil] at e5
    refine frz_at (a := p) (i := 3) (ds := zs) (M2 := M) .h rfl ?_
    repeat' walk_at "e"
    exact ⟨_, .refl _, by rw [← e5]; exact q⟩
end LW

namespace LW
theorem use_turns' {ts : List Int} {M : Mem} {Φ : Pst} {Ξ : EV → Mem → Prop} (h1 : ts.length ≤ 60) (h2 : ∀ t ∈ ts, t ≠ 0) (h : Φ (.d .none) M) : pdTurns [.d (dI ts)] M Φ Ξ := ⟨ts, rfl, h1, h2, h⟩
theorem use_trail {ring : Int} {ps xs ts : List Int} {d : Int} {M : Mem} {Φ : Pst} {Ξ : EV → Mem → Prop} (h1 : 2 ≤ ring) (h2 : Plays ps) (h3 : Stand d ps xs) (h4 : ts.length ≤ 60) (h5 : ∀ t ∈ ts, t ≠ 0) (h : Φ (.d (.list (trailL ps d xs ts))) M) : pdTrail [.d (dP ring ps), .d (dP d xs), .d (dI ts)] M Φ Ξ := ⟨ring, ps, xs, ts, d, rfl, h1, h2, h3, h4, h5, h⟩
local macro_rules | `(tactic| walk_at "ex") => `(tactic| first
  | ((with_reducible apply use_turns); (case h1 => with_reducible assumption); (case h2 => with_reducible assumption))
  | ((with_reducible apply use_trail); (case h1 => with_reducible assumption); (case h2 => with_reducible assumption); (case h3 => with_reducible assumption); (case h4 => with_reducible assumption); (case h5 => with_reducible assumption))
  | fail "stuck")
/-- the state behind turns -/
def endL (ps : List Int) : Int → List Int → List Int → PyData
  | d, xs, [] => dP d xs
  | d, xs, t :: ts => endL ps (d + t) (pushL t (d + t) ps xs) ts
theorem trail_last (ps : List Int) : ∀ (d : Int) (xs ts : List Int), trailL ps d xs ts = [] ∨ (trailL ps d xs ts).getLast? = some (endL ps d xs ts)
  | _, _, [] => .inl rfl
  | d, xs, t :: ts => .inr (by
    rw [trailL, endL]
    rcases trail_last ps (d + t) (pushL t (d + t) ps xs) ts with h | h
    · cases ts with
      | nil => rfl
      | cons u us => cases h
    · rw [List.getLast?_cons, h]; rfl)
def pdTurned : Prom := fun rs M Φ _ => ∃ (ring : Int) (ps xs ts : List Int) (d : Int), rs = [.d (dP ring ps), .d (dP d xs), .d (dI ts)] ∧ 2 ≤ ring ∧ Plays ps ∧ Stand d ps xs ∧ ts.length ≤ 60 ∧ (∀ t ∈ ts, t ≠ 0) ∧ Φ (.d (endL ps d xs ts)) M
abbrev s_turned_state : Stmt := topS 20
theorem sc_turned_state : FnScope ["lock", "state", "turns", "trail", "dial", "places"] ["lock", "state", "turns"] (defScope s_turned_state) := ⟨rfl, rfl, rfl, by decide +kernel, rfl, by decide +kernel, by decide +kernel⟩
theorem vs_turned_state {X : Cx} (cx : Cxt X ["lock", "state", "turns", "trail", "dial", "places"] (defScope s_turned_state)) : Var X 0 "lock" ∧ Var X 1 "state" ∧ Var X 2 "turns" ∧ Var X 3 "trail" ∧ Var X 4 "dial" ∧ Var X 5 "places" :=
  ⟨cx.var rfl (.inl rfl) (by decide) (by decide), cx.var rfl (.inl rfl) (by decide) (by decide), cx.var rfl (.inl rfl) (by decide) (by decide), cx.var rfl (.inl rfl) (by decide) (by decide), cx.var rfl (.inl rfl) (by decide) (by decide), cx.var rfl (.inl rfl) (by decide) (by decide)⟩
theorem gs_turned_state {X : Cx} (cx : Cxt X ["lock", "state", "turns", "trail", "dial", "places"] (defScope s_turned_state)) : Gl X "state_trail" ∧ Gl X "list" :=
  ⟨cx.gl rfl, cx.gl rfl⟩
theorem ok_turned_state {P : Program} {w : World} {K : Frg} {mg : Str → Option Value} {base : Heap} {f : Addr} {fd : FuncData} (F : L2.Fun K "turned_state" "turned_state" s_turned_state f fd) (d_state_trail : DefG P w K mg base "state_trail" 5 ["lock", "state", "turns"] [] pdTrail) (m_list : mg "list" = none) : FnD P w K mg base 6 f fd ["lock", "state", "turns"] pdTurned := by
  refine Fun.okD [.any, .any, .any] F sc_turned_state rfl rfl (fun rs M Φ Ξ ⟨_, _, _, _, _, e, _⟩ => by rw [e]; rfl) fun X hP hw hK hm hb cx hr rs M Φ Ξ h => ?_
  subst hP hw hK hm hb
  obtain ⟨v0, v1, v2, v3, v4, v5⟩ := vs_turned_state cx
  obtain ⟨g_state_trail, g_list⟩ := gs_turned_state cx
  have c_state_trail := d_state_trail.df (show 5 ≤ 5 by decide)
  have b_list : Bi X "list" (.type "list") := .mk' m_list (by decide +kernel) (by decide) (by decide)
  have nd := cx.nd
  have calm := cx.calm
  have gu := cx.gu
  have pass := cx.pass
  obtain ⟨ring, ps, xs, ts, d, rfl, h1, h2, h3, h4, h5, q⟩ := h
  have e1 : trailL ps d xs ts = [] ∨ (trailL ps d xs ts).getLast? = some (endL ps d xs ts) := trail_last ..
  dsimp only [List.cons_append, List.nil_append]
  refine sq ?_
  repeat' walk_at "e"
  · rename_i hh
    have e2 : trailL ps d xs ts ≠ [] := by intro z; rw [z] at hh; cases hh
    refine ix_last (e1.resolve_left e2) ?_
    exact ⟨_, .refl _, q⟩
  · rename_i hh
    have e2 : ts = [] := by cases ts with | nil => rfl | cons t ts => cases hh
    subst e2
    exact ⟨_, .refl _, q⟩
/-- how far turns move the dial -/
def wayL (ts : List Int) : Int := (ts.map fun t => (t.natAbs : Int)).sum
def pdWay : Prom := fun rs M Φ _ => ∃ (ts : List Int), rs = [.d (dI ts)] ∧ ts.length ≤ 60 ∧ (∀ t ∈ ts, t ≠ 0) ∧ Φ (.d (.int (wayL ts))) M
abbrev s_way_of : Stmt := topS 22
theorem sc_way_of : FnScope ["turns", "turn"] ["turns"] (defScope s_way_of) := ⟨rfl, rfl, rfl, by decide +kernel, rfl, by decide +kernel, by decide +kernel⟩
theorem vs_way_of {X : Cx} (cx : Cxt X ["turns", "turn"] (defScope s_way_of)) : Var X 0 "turns" ∧ Nm X 1 "turn" :=
  ⟨cx.var rfl (.inl rfl) (by decide) (by decide), cx.nm rfl⟩
theorem gs_way_of {X : Cx} (cx : Cxt X ["turns", "turn"] (defScope s_way_of)) : Gl X "check_turns" ∧ Gl X "sum" :=
  ⟨cx.gl rfl, cx.gl rfl⟩
theorem ok_way_of {P : Program} {w : World} {K : Frg} {mg : Str → Option Value} {base : Heap} {f : Addr} {fd : FuncData} (F : L2.Fun K "way_of" "way_of" s_way_of f fd) (d_check_turns : DefG P w K mg base "check_turns" 3 ["turns"] [] pdTurns) (m_sum : mg "sum" = none) (m_abs : mg "abs" = none) : FnD P w K mg base 4 f fd ["turns"] pdWay := by
  refine Fun.okD [.any] F sc_way_of rfl rfl (fun rs M Φ Ξ ⟨_, e, _⟩ => by rw [e]; rfl) fun X hP hw hK hm hb cx hr rs M Φ Ξ h => ?_
  subst hP hw hK hm hb
  obtain ⟨v0, v1⟩ := vs_way_of cx
  obtain ⟨g_check_turns, g_sum⟩ := gs_way_of cx
  have c_check_turns := d_check_turns.df (show 3 ≤ 3 by decide)
  have b_sum : Bi X "sum" (.builtin "sum") := .mk' m_sum (by first | exact PySem.boot_len | decide +kernel) (by decide) (by decide)
  have b_abs : Bi X "abs" (.builtin "abs") := .mk' m_abs (by first | exact PySem.boot_len | decide +kernel) (by decide) (by decide)
  have nd := cx.nd
  have calm := cx.calm
  have gu := cx.gu
  have pass := cx.pass
  obtain ⟨ts, rfl, h4, h5, q⟩ := h
  dsimp only [List.cons_append, List.nil_append]
  refine sq ?_
  repeat' walk_at "e"
  refine ge_lc [("turn", 1)] (.inl rfl) (by simp) calm nd ?_ ?_ ?_
  · exact cx.blk (by decide +kernel)
  · intro _; rfl
  repeat' walk_at "e"
  rw [rI_d]
  refine compD_map (f := fun i => .int (i.natAbs : Int)) (szL (by omega)) (fun x hx => ?_) ?_
  · skip
    repeat' walk_at "e"
    exact ⟨rfl, rfl⟩
  · refine ⟨(ts.map fun i => (i.natAbs : Int)).map PyData.int, by simp, ?_⟩
    repeat' walk_at "e"
    exact ⟨_, .refl _, q⟩
def jstep (acc : List Int) (t : Int) : List Int := if acc = [] then [t] else if decide (0 < acc.getLastD 0) = decide (0 < t) then acc.dropLast ++ [acc.getLastD 0 + t] else acc ++ [t]
def joinL (ts : List Int) : List Int := ts.foldl jstep []
theorem ends (xs : List Int) : xs = [] ∨ ∃ ys l, xs = ys ++ [l] := by
  cases xs with
  | nil => exact .inl rfl
  | cons a t => exact .inr ⟨(a :: t).dropLast, _, (List.dropLast_concat_getLast (by simp)).symm⟩
theorem jstep_same {ys : List Int} {l x : Int} (h : decide (0 < l) = decide (0 < x)) : jstep (ys ++ [l]) x = ys ++ [l + x] := by
  rw [jstep, if_neg (by simp), List.getLastD_concat, if_pos h, List.dropLast_concat]
theorem jstep_diff {ys : List Int} {l x : Int} (h : ¬ decide (0 < l) = decide (0 < x)) : jstep (ys ++ [l]) x = ys ++ [l] ++ [x] := by
  rw [jstep, if_neg (by simp), List.getLastD_concat, if_neg h]
theorem jstep_len (acc : List Int) (t : Int) : (jstep acc t).length ≤ acc.length + 1 := by
  unfold jstep
  split
  · simp
  · split <;> simp
theorem foldl_len : ∀ (ts acc : List Int), (ts.foldl jstep acc).length ≤ acc.length + ts.length
  | [], _ => by simp
  | t :: ts, acc => by have h1 := foldl_len ts (jstep acc t); have h2 := jstep_len acc t; rw [List.foldl_cons, List.length_cons]; omega
theorem joinL_len (ts : List Int) : (joinL ts).length ≤ ts.length := by have := foldl_len ts []; rw [joinL]; simpa using this
def pdJoined : Prom := fun rs M Φ _ => ∃ (ts : List Int), rs = [.d (dI ts)] ∧ ts.length ≤ 60 ∧ (∀ t ∈ ts, t ≠ 0) ∧ ∀ p, Φ (.cell p) ((p, Is (rI (joinL ts))) :: M)
abbrev s_joined_turns : Stmt := topS 23
theorem sc_joined_turns : FnScope ["turns", "joined", "turn"] ["turns"] (defScope s_joined_turns) := ⟨rfl, rfl, rfl, by decide +kernel, rfl, by decide +kernel, by decide +kernel⟩
theorem vs_joined_turns {X : Cx} (cx : Cxt X ["turns", "joined", "turn"] (defScope s_joined_turns)) : Var X 0 "turns" ∧ Var X 1 "joined" ∧ Var X 2 "turn" :=
  ⟨cx.var rfl (.inl rfl) (by decide) (by decide), cx.var rfl (.inl rfl) (by decide) (by decide), cx.var rfl (.inl rfl) (by decide) (by decide)⟩
theorem gs_joined_turns {X : Cx} (cx : Cxt X ["turns", "joined", "turn"] (defScope s_joined_turns)) : Gl X "check_turns" :=
  cx.gl rfl
theorem ok_joined_turns {P : Program} {w : World} {K : Frg} {mg : Str → Option Value} {base : Heap} {f : Addr} {fd : FuncData} (F : L2.Fun K "joined_turns" "joined_turns" s_joined_turns f fd) (d_check_turns : DefG P w K mg base "check_turns" 3 ["turns"] [] pdTurns) : FnD P w K mg base 4 f fd ["turns"] pdJoined := by
  refine Fun.okD [.mu, .any] F sc_joined_turns rfl rfl (fun rs M Φ Ξ ⟨_, e, _⟩ => by rw [e]; rfl) fun X hP hw hK hm hb cx hr rs M Φ Ξ h => ?_
  subst hP hw hK hm hb
  obtain ⟨v0, v1, v2⟩ := vs_joined_turns cx
  have g_check_turns := gs_joined_turns cx
  have c_check_turns := d_check_turns.df (show 3 ≤ 3 by decide)
  have nd := cx.nd
  have calm := cx.calm
  have gu := cx.gu
  have pass := cx.pass
  obtain ⟨ts, rfl, h4, h5, q⟩ := h
  dsimp only [List.cons_append, List.nil_append]
  refine sq ?_
  repeat' walk_at "e"
  rename_i p
  refine for_ints (fun pre ρ M' => ∃ (y : Rv), ρ = [.d (dI ts), .cell p, y] ∧ M' = (p, Is (rI (joinL pre))) :: M) ?_ ?_ ?_
  · exact ⟨_, rfl, rfl⟩
  · rintro pre x post ρ' M' e ⟨y, rfl, rfl⟩
    have hj := joinL_len pre
    have el := congrArg List.length e
    rw [List.length_append, List.length_cons] at el
    have ej : joinL (pre ++ [x]) = jstep (joinL pre) x := by rw [joinL, List.foldl_append]; rfl
    rw [ej]
    rcases ends (joinL pre) with e1 | ⟨ys, l, e1⟩
    · rw [e1] at hj ⊢
      repeat' walk_at "e"
      · rename_i hh; exact absurd hh (by decide)
      · exact ⟨_, rfl, rfl⟩
    · rw [e1] at hj ⊢
      rw [List.length_append, List.length_singleton] at hj
      rw [rI_app, show rI [l] = [.d (.int l)] from rfl]
      repeat' walk_at "e"
      · rename_i hd; exact ⟨_, rfl, by rw [jstep_same hd, rI_app]; rfl⟩
      · rename_i hd; exact ⟨_, rfl, by rw [jstep_diff hd, rI_app, rI_app]; rfl⟩
      · rename_i hh _; simp at hh
  · rintro ρ' M' ⟨y, rfl, rfl⟩
    repeat' walk_at "e"
    exact ⟨_, .refl _, q p⟩
end LW

namespace LW
def pdRows : Prom := fun rs M Φ _ => ∃ (c : Addr) (k : Nat) (M' : Mem), rs = [.cell c] ∧ k ≤ 900000 ∧ Cell c (Coil k) (Coil (k + 200)) M M' ∧ ∀ ts : List Int, ts.length ≤ 60 → (∀ t ∈ ts, t ≠ 0 ∧ t.natAbs ≤ 10 ^ 30) → Φ (.d (dI ts)) M'
abbrev s_law_rows : Stmt := topS 30
theorem sc_law_rows : FnScope ["coil", "found", "up", "far", "lap"] ["coil"] (defScope s_law_rows) := ⟨rfl, rfl, rfl, by decide +kernel, rfl, by decide +kernel, by decide +kernel⟩
theorem vs_law_rows {X : Cx} (cx : Cxt X ["coil", "found", "up", "far", "lap"] (defScope s_law_rows)) : Var X 0 "coil" ∧ Var X 1 "found" ∧ Var X 2 "up" ∧ Var X 3 "far" ∧ Var X 4 "lap" :=
  ⟨cx.var rfl (.inl rfl) (by decide) (by decide), cx.var rfl (.inl rfl) (by decide) (by decide), cx.var rfl (.inl rfl) (by decide) (by decide), cx.var rfl (.inl rfl) (by decide) (by decide), cx.var rfl (.inl rfl) (by decide) (by decide)⟩
theorem gs_law_rows {X : Cx} (cx : Cxt X ["coil", "found", "up", "far", "lap"] (defScope s_law_rows)) : Gl X "_law_draw" ∧ Gl X "range" :=
  ⟨cx.gl rfl, cx.gl rfl⟩
theorem ok_law_rows {P : Program} {w : World} {K : Frg} {mg : Str → Option Value} {base : Heap} {f : Addr} {fd : FuncData} (F : L2.Fun K "_law_rows" "_law_rows" s_law_rows f fd) (d_law_draw : DefG P w K mg base "_law_draw" 1 ["coil", "bound"] [] pdDraw) (m_range : mg "range" = none) : FnD P w K mg base 2 f fd ["coil"] pdRows := by
  refine Fun.okD [.mu, .any, .any, .any] F sc_law_rows rfl rfl (fun rs M Φ Ξ ⟨_, _, _, e, _⟩ => by rw [e]; rfl) fun X hP hw hK hm hb cx hr rs M Φ Ξ h => ?_
  subst hP hw hK hm hb
  obtain ⟨v0, v1, v2, v3, v4⟩ := vs_law_rows cx
  obtain ⟨g_law_draw, g_range⟩ := gs_law_rows cx
  have c_law_draw := d_law_draw.df (show 1 ≤ 1 by decide)
  have nd := cx.nd
  have calm := cx.calm
  have gu := cx.gu
  have pass := cx.pass
  obtain ⟨c, k, M', rfl, hk, hc, q⟩ := h
  obtain ⟨Ma, Mb, e1, e2⟩ := hc.split
  subst e1 e2
  dsimp only [List.cons_append, List.nil_append]
  refine sq ?_
  repeat' walk_at "e"
  rename_i p up0 hu0 hu1 r2 _ _
  refine ix_menu (fun v => 3 ≤ v ∧ v ≤ 10 ^ 28) (by omega) (by simp only [List.length_cons, List.length_nil]; omega) (.cons (by omega) (.cons (by omega) (.cons (by omega) .nil))) fun far hfar => ?_
  repeat' walk_at "e"
  rename_i r3 _ _
  refine ix_menu (fun v => 0 ≤ v ∧ v ≤ 60) (by omega) (by simp only [List.length_cons, List.length_nil]; omega) (.cons (by omega) (.cons (by omega) (.cons (by omega) (.cons (by omega) (.cons (by omega) .nil))))) fun n hn => ?_
  repeat' walk_at "e"
  refine for_map (fun pre ρ M => ∃ (ts : List Int) (u : Int) (y : Rv) (j : Nat), ρ = [.cell c, .cell p, .d (.int u), .d (.int far), y] ∧ M = (p, Is (rI ts)) :: (Ma ++ (c, Coil j) :: Mb) ∧ 0 ≤ u ∧ u ≤ 1 ∧ j ≤ k + 10 + 2 * pre.length ∧ ts.length = pre.length ∧ ∀ t ∈ ts, t ≠ 0 ∧ t.natAbs ≤ 10 ^ 30) ?_ ?_ ?_
  · exact ⟨[], _, _, _, rfl, rfl, hu0, by omega, by simp, rfl, fun q h => by cases h⟩
  · rintro pre x post ρ' M' e ⟨ts, u, y, j, rfl, rfl, hv0, hv1, hj, hl, hps⟩
    have el := congrArg List.length e
    rw [List.length_range, List.length_append, List.length_cons] at el
    have hx : x < n.toNat := List.mem_range.mp (by rw [e]; simp)
    repeat' walk_at "e"
    refine ix_menu (fun v => 2 ≤ v ∧ v ≤ 5) (by omega) (by simp only [List.length_cons, List.length_nil]; omega) (.cons (by omega) (.cons (by omega) .nil)) fun b hb => ?_
    repeat' walk_at "e"
    · rename_i r4 _ _ _ r5 h50 h51
      refine ix_menu (fun v => v = -1 ∨ v = 1) (by omega) (by simp only [List.length_cons, List.length_nil]; omega) (.cons (by omega) (.cons (by omega) .nil)) fun b hb => ?_
      repeat' walk_at "e"
      refine ⟨ts ++ [(1 + r5) * b], _, _, j + 1 + 1, rfl, by rw [rI_app]; rfl, by omega, by omega, by simp; omega, by simp [hl], fun t ht => ?_⟩
      rcases List.mem_append.mp ht with ht | ht
      · exact hps t ht
      · rw [List.mem_singleton.mp ht]; rcases hb with rfl | rfl <;> omega
    · rename_i r4 _ _ _ r5 h50 h51
      refine ix_menu (fun v => v = -1 ∨ v = 1) (by omega) (by simp only [List.length_cons, List.length_nil]; omega) (.cons (by omega) (.cons (by omega) .nil)) fun b hb => ?_
      repeat' walk_at "e"
      refine ⟨ts ++ [(1 + r5) * b], _, _, j + 1 + 1, rfl, by rw [rI_app]; rfl, by omega, by omega, by simp; omega, by simp [hl], fun t ht => ?_⟩
      rcases List.mem_append.mp ht with ht | ht
      · exact hps t ht
      · rw [List.mem_singleton.mp ht]; rcases hb with rfl | rfl <;> omega
  · rintro ρ' M' ⟨ts, u, y, j, rfl, rfl, hv0, hv1, hj, hl, hps⟩
    rw [List.length_range] at hj hl
    refine frz_at (a := p) (i := 1) (ds := ts.map .int) (M2 := Ma ++ (c, Coil j) :: Mb) (by rw [rI_d]; exact .h) rfl ?_
    repeat' walk_at "e"
    exact ⟨_, Le.app (Coil.mono (by omega)), q ts (by omega) hps⟩
theorem zip_fst (ts : List Int) : ts.zipIdx.map (·.1) = ts := by
  exact List.zipIdx_map_fst 0 ts
theorem zip_at {ts : List Int} {pre post : List (Int × Nat)} {x : Int} {j : Nat} (e : ts.zipIdx = pre ++ (x, j) :: post) : j = pre.length ∧ ts = pre.map (·.1) ++ x :: post.map (·.1) := by
  constructor
  · have h : ts.zipIdx[pre.length]? = some (x, j) := by rw [e]; simp
    rw [List.getElem?_zipIdx] at h
    cases ht : ts[pre.length]? with
    | none => rw [ht] at h; cases h
    | some v => rw [ht] at h; simp at h; omega
  · have h := zip_fst ts
    rw [e, List.map_append] at h
    exact h.symm
theorem join_snoc (us : List Int) (x : Int) : joinL (us ++ [x]) = jstep (joinL us) x := by rw [joinL, List.foldl_append]; rfl
theorem join_sign {b : Int} : ∀ {ws : List Int}, (∀ t ∈ ws ++ [b], t ≠ 0) → ∃ ys l, joinL (ws ++ [b]) = ys ++ [l] ∧ l ≠ 0 ∧ decide (0 < l) = decide (0 < b) := by
  intro ws
  induction hn : ws.length generalizing ws b with
  | zero =>
    intro h
    have := List.eq_nil_of_length_eq_zero hn
    subst this
    exact ⟨[], b, rfl, h b (by simp), rfl⟩
  | succ n ih =>
    intro h
    rcases ends ws with e | ⟨us, c, e⟩
    · subst e; cases hn
    · subst e
      obtain ⟨ys, l, e1, e2, e3⟩ := ih (b := c) (ws := us) (by simpa using hn) (fun t ht => h t (List.mem_append_left _ ht))
      have hb := h b (by simp)
      rw [join_snoc, e1]
      by_cases hs : decide (0 < l) = decide (0 < b)
      · rw [jstep_same hs]
        refine ⟨ys, l + b, rfl, ?_, ?_⟩
        · rw [decide_eq_decide] at hs; omega
        · rw [decide_eq_decide] at hs ⊢; omega
      · rw [jstep_diff hs]
        exact ⟨_, b, rfl, hb, rfl⟩
def pdDue : Prom := fun rs M Φ _ => ∃ (ts : List Int), rs = [.d (dI ts)] ∧ ts.length ≤ 60 ∧ (∀ t ∈ ts, t ≠ 0) ∧ Φ (.d (dI (joinL ts))) M
abbrev s_law_due : Stmt := topS 31
theorem sc_law_due : FnScope ["swings", "found", "spot", "swing"] ["swings"] (defScope s_law_due) := ⟨rfl, rfl, rfl, by decide +kernel, rfl, by decide +kernel, by decide +kernel⟩
theorem vs_law_due {X : Cx} (cx : Cxt X ["swings", "found", "spot", "swing"] (defScope s_law_due)) : Var X 0 "swings" ∧ Var X 1 "found" ∧ Var X 2 "spot" ∧ Var X 3 "swing" :=
  ⟨cx.var rfl (.inl rfl) (by decide) (by decide), cx.var rfl (.inl rfl) (by decide) (by decide), cx.var rfl (.inl rfl) (by decide) (by decide), cx.var rfl (.inl rfl) (by decide) (by decide)⟩
theorem gs_law_due {X : Cx} (cx : Cxt X ["swings", "found", "spot", "swing"] (defScope s_law_due)) : Gl X "enumerate" :=
  cx.gl rfl
theorem ok_law_due {P : Program} {w : World} {K : Frg} {mg : Str → Option Value} {base : Heap} {f : Addr} {fd : FuncData} (F : L2.Fun K "_law_due" "_law_due" s_law_due f fd) (m_enumerate : mg "enumerate" = none) : FnD P w K mg base 1 f fd ["swings"] pdDue := by
  refine Fun.okD [.mu, .any, .any] F sc_law_due rfl rfl (fun rs M Φ Ξ ⟨_, e, _⟩ => by rw [e]; rfl) fun X hP hw hK hm hb cx hr rs M Φ Ξ h => ?_
  subst hP hw hK hm hb
  obtain ⟨v0, v1, v2, v3⟩ := vs_law_due cx
  have g_enumerate := gs_law_due cx
  have nd := cx.nd
  have calm := cx.calm
  have gu := cx.gu
  have pass := cx.pass
  obtain ⟨ts, rfl, h4, h5, q⟩ := h
  dsimp only [List.cons_append, List.nil_append]
  refine sq ?_
  repeat' walk_at "e"
  rename_i p
  refine ⟨ts.map .int, rfl, ?_⟩
  rw [enum_ints]
  refine for_map (fun pre ρ M' => ∃ (y z : Rv), ρ = [.d (dI ts), .cell p, y, z] ∧ M' = (p, Is (rI (joinL (pre.map (·.1))))) :: M) ?_ ?_ ?_
  · exact ⟨_, _, rfl, rfl⟩
  · rintro pre ⟨x, j⟩ post ρ' M' e ⟨y, z, rfl, rfl⟩
    have el := congrArg List.length e
    rw [List.length_append, List.length_cons, List.length_zipIdx] at el
    obtain ⟨e7, e8⟩ := zip_at e
    generalize hus : pre.map (·.1) = us at e8
    have hj := joinL_len us
    have ej : joinL ((pre ++ [(x, j)]).map (·.1)) = jstep (joinL us) x := by rw [List.map_append, hus, joinL, List.foldl_append]; rfl
    rw [ej]
    have hul : us.length = pre.length := by rw [← hus, List.length_map]
    rcases ends us with e1 | ⟨ws, b, e1⟩
    · subst e1
      have ej0 : j = 0 := by rw [e7, ← hul]; rfl
      subst ej0
      repeat' walk_at "e"
      exact ⟨_, _, rfl, by rw [Int.zero_add]; rfl⟩
    · obtain ⟨ys, l, e2, _, e3⟩ := join_sign (ws := ws) (b := b) (by rw [← e1]; intro t ht; exact h5 t (by rw [e8]; simp [ht]))
      have e9 : ts[(↑(x, j).2 - 1 : Int).toNat]? = some b := by
        have hl : us.length = ws.length + 1 := by rw [e1]; simp
        rw [show (↑(x, j).2 - 1 : Int).toNat = ws.length by show ((j : Int) - 1).toNat = _; omega, e8, e1]
        simp
      rw [e1, e2] at hj ⊢
      simp only [List.length_append, List.length_singleton] at hj
      rw [e1, List.length_append, List.length_singleton] at hul
      rw [rI_app, show rI [l] = [.d (.int l)] from rfl]
      repeat' walk_at "e"
      · rename_i hv hd
        have := Option.some.inj (hv.symm.trans e9)
        subst this
        exact ⟨_, _, rfl, by rw [jstep_diff (fun z => hd (z.symm.trans e3)), rI_app, rI_app, Int.zero_add]; rfl⟩
      · rename_i hv hd
        have := Option.some.inj (hv.symm.trans e9)
        subst this
        exact ⟨_, _, rfl, by rw [jstep_same (e3.trans hd.symm), rI_app]; rfl⟩
  · rintro ρ' M' ⟨y, z, rfl, rfl⟩
    rw [zip_fst]
    refine frz_at (a := p) (i := 1) (ds := (joinL ts).map .int) (M2 := M) (by rw [rI_d]; exact .h) rfl ?_
    repeat' walk_at "e"
    exact ⟨_, .refl _, q⟩
end LW

namespace LW
theorem join_nz : ∀ {us : List Int}, (∀ t ∈ us, t ≠ 0) → ∀ t ∈ joinL us, t ≠ 0 := by
  intro us
  induction hn : us.length generalizing us with
  | zero => intro _ t ht; rw [List.eq_nil_of_length_eq_zero hn] at ht; cases ht
  | succ n ih =>
    intro h
    rcases ends us with e | ⟨ws, x, e⟩
    · subst e; cases hn
    · subst e
      have i1 := ih (us := ws) (by simpa using hn) (fun t ht => h t (List.mem_append_left _ ht))
      have hx := h x (by simp)
      rw [join_snoc]
      rcases ends (joinL ws) with e | ⟨ys, l, e⟩
      · rw [e]; intro t ht; rw [List.mem_singleton.mp ht]; exact hx
      · have hl := i1 l (by rw [e]; simp)
        rw [e] at i1 ⊢
        by_cases hs : decide (0 < l) = decide (0 < x)
        · rw [jstep_same hs]
          rw [decide_eq_decide] at hs
          intro t ht
          rcases List.mem_append.mp ht with ht | ht
          · exact i1 t (List.mem_append_left _ ht)
          · rw [List.mem_singleton.mp ht]; omega
        · rw [jstep_diff hs]
          intro t ht
          rcases List.mem_append.mp ht with ht | ht
          · exact i1 t ht
          · rw [List.mem_singleton.mp ht]; exact hx
theorem way_app (us vs : List Int) : wayL (us ++ vs) = wayL us + wayL vs := by rw [wayL, List.map_append, List.sum_append]; rfl
theorem way_one (x : Int) : wayL [x] = (x.natAbs : Int) := by simp [wayL]
theorem join_way : ∀ {us : List Int}, (∀ t ∈ us, t ≠ 0) → wayL (joinL us) = wayL us := by
  intro us
  induction hn : us.length generalizing us with
  | zero => intro _; rw [List.eq_nil_of_length_eq_zero hn]; rfl
  | succ n ih =>
    intro h
    rcases ends us with e | ⟨ws, x, e⟩
    · subst e; cases hn
    · subst e
      have i0 := fun t ht => h t (List.mem_append_left [x] ht)
      have i1 := ih (us := ws) (by simpa using hn) i0
      have hx := h x (by simp)
      rw [join_snoc, way_app, ← i1]
      rcases ends (joinL ws) with e | ⟨ys, l, e⟩
      · rw [e]; show wayL [x] = wayL [] + wayL [x]; rw [way_one]; show _ = (0 : Int) + _; omega
      · rw [e]
        by_cases hs : decide (0 < l) = decide (0 < x)
        · have hl := join_nz i0 l (by rw [e]; simp)
          rw [jstep_same hs, way_app, way_app, way_one, way_one, way_one]
          rw [decide_eq_decide] at hs
          omega
        · rw [jstep_diff hs, way_app]
theorem join_join : ∀ {us : List Int}, (∀ t ∈ us, t ≠ 0) → joinL (joinL us) = joinL us := by
  intro us
  induction hn : us.length generalizing us with
  | zero => intro _; rw [List.eq_nil_of_length_eq_zero hn]; rfl
  | succ n ih =>
    intro h
    rcases ends us with e | ⟨ws, x, e⟩
    · subst e; cases hn
    · subst e
      have i0 := fun t ht => h t (List.mem_append_left [x] ht)
      have i1 := ih (us := ws) (by simpa using hn) i0
      have hx := h x (by simp)
      rw [join_snoc]
      rcases ends (joinL ws) with e | ⟨ys, l, e⟩
      · rw [e]; rfl
      · have nz := join_nz i0
        rw [e] at nz i1 ⊢
        have hl := nz l (by simp)
        by_cases hs : decide (0 < l) = decide (0 < x)
        · rw [jstep_same hs, join_snoc]
          rw [join_snoc] at i1
          rcases ends (joinL ys) with e2 | ⟨zs, m, e2⟩
          · rw [e2] at i1 ⊢
            have : [l] = ys ++ [l] := i1
            have hz : ys = [] := by
              have := congrArg List.length this
              rw [List.length_append] at this
              exact List.eq_nil_of_length_eq_zero (by simpa using this)
            rw [hz]; rfl
          · have nm := join_nz (us := ys) (fun t ht => nz t (List.mem_append_left _ ht)) m (by rw [e2]; simp)
            rw [e2] at i1 ⊢
            by_cases h2 : decide (0 < m) = decide (0 < l)
            · rw [jstep_same h2] at i1
              have := congrArg (fun q => q.getLastD 0) i1
              simp only [List.getLastD_concat] at this
              omega
            · rw [jstep_diff h2] at i1
              have hk : zs ++ [m] = ys := List.append_cancel_right i1
              rw [jstep_diff, hk]
              rw [decide_eq_decide] at h2 hs ⊢
              omega
        · rw [jstep_diff hs, join_snoc, i1, jstep_diff hs]
theorem push_up {b c l x : Int} (hl : 0 < l) (hx : 0 < x) : ∀ {b c : Int} {ps xs : List Int}, b ≤ c → pushL x c ps (pushL l b ps xs) = pushL (l + x) c ps xs
  | _, _, [], _, _ => by simp [pushL]
  | _, _, _ :: _, [], _ => by simp [pushL]
  | b, c, p :: ps, v :: xs, h => by
    have hlx : 0 < l + x := by omega
    have e1 : pushL l b (p :: ps) (v :: xs) = max v (b - p) :: pushL l (max v (b - p)) ps xs := by rw [pushL, if_pos hl]
    have e2 : pushL (l + x) c (p :: ps) (v :: xs) = max v (c - p) :: pushL (l + x) (max v (c - p)) ps xs := by rw [pushL, if_pos hlx]
    rw [e1, e2, pushL, if_pos hx]
    have e3 : max (max v (b - p)) (c - p) = max v (c - p) := by omega
    rw [e3, push_up (b := b) (c := c) hl hx (by omega)]
theorem push_down {b c l x : Int} (hl : ¬ 0 < l) (hx : ¬ 0 < x) : ∀ {b c : Int} {ps xs : List Int}, c ≤ b → pushL x c ps (pushL l b ps xs) = pushL (l + x) c ps xs
  | _, _, [], _, _ => by simp [pushL]
  | _, _, _ :: _, [], _ => by simp [pushL]
  | b, c, p :: ps, v :: xs, h => by
    have hlx : ¬ 0 < l + x := by omega
    have e1 : pushL l b (p :: ps) (v :: xs) = min v b :: pushL l (min v b) ps xs := by rw [pushL, if_neg hl]
    have e2 : pushL (l + x) c (p :: ps) (v :: xs) = min v c :: pushL (l + x) (min v c) ps xs := by rw [pushL, if_neg hlx]
    rw [e1, e2, pushL, if_neg hx]
    have e3 : min (min v b) c = min v c := by omega
    rw [e3, push_down (b := b) (c := c) hl hx (by omega)]
def stepS (ps : List Int) (s : Int × List Int) (t : Int) : Int × List Int := (s.1 + t, pushL t (s.1 + t) ps s.2)
def endS (ps : List Int) (s : Int × List Int) (ts : List Int) : Int × List Int := ts.foldl (stepS ps) s
theorem endL_S (ps : List Int) : ∀ (ts : List Int) (d : Int) (xs : List Int), endL ps d xs ts = dP (endS ps (d, xs) ts).1 (endS ps (d, xs) ts).2
  | [], _, _ => rfl
  | t :: ts, d, xs => by rw [endL, endL_S ps ts]; rfl
theorem endS_snoc (ps : List Int) (s : Int × List Int) (us : List Int) (x : Int) : endS ps s (us ++ [x]) = stepS ps (endS ps s us) x := by rw [endS, List.foldl_append]; rfl
theorem step_step {ps : List Int} {s : Int × List Int} {l x : Int} (h : decide (0 < l) = decide (0 < x)) (hl : l ≠ 0) (hx : x ≠ 0) : stepS ps (stepS ps s l) x = stepS ps s (l + x) := by
  rw [decide_eq_decide] at h
  have e : s.1 + l + x = s.1 + (l + x) := by omega
  show (s.1 + l + x, pushL x (s.1 + l + x) ps (pushL l (s.1 + l) ps s.2)) = (s.1 + (l + x), pushL (l + x) (s.1 + (l + x)) ps s.2)
  by_cases hp : 0 < l
  · rw [push_up (b := 0) (c := 0) hp (h.mp hp) (by omega), e]
  · rw [push_down (b := 0) (c := 0) hp (fun z => hp (h.mpr z)) (by omega), e]
theorem join_end (ps : List Int) (s : Int × List Int) : ∀ {us : List Int}, (∀ t ∈ us, t ≠ 0) → endS ps s (joinL us) = endS ps s us := by
  intro us
  induction hn : us.length generalizing us with
  | zero => intro _; rw [List.eq_nil_of_length_eq_zero hn]; rfl
  | succ n ih =>
    intro h
    rcases ends us with e | ⟨ws, x, e⟩
    · subst e; cases hn
    · subst e
      have i0 := fun t ht => h t (List.mem_append_left [x] ht)
      have i1 := ih (us := ws) (by simpa using hn) i0
      have hx := h x (by simp)
      rw [join_snoc, endS_snoc, ← i1]
      rcases ends (joinL ws) with e | ⟨ys, l, e⟩
      · rw [e]; rfl
      · have hl := join_nz i0 l (by rw [e]; simp)
        rw [e]
        by_cases hs : decide (0 < l) = decide (0 < x)
        · rw [jstep_same hs, endS_snoc, endS_snoc, step_step hs hl hx]
        · rw [jstep_diff hs, endS_snoc]
theorem endL_join {ps : List Int} {d : Int} {xs us : List Int} (h : ∀ t ∈ us, t ≠ 0) : endL ps d xs (joinL us) = endL ps d xs us := by rw [endL_S, endL_S, join_end ps _ h]
end LW

namespace LW
theorem use_due {ts : List Int} {M : Mem} {Φ : Pst} {Ξ : EV → Mem → Prop} (h1 : ts.length ≤ 60) (h2 : ∀ t ∈ ts, t ≠ 0) (h : Φ (.d (dI (joinL ts))) M) : pdDue [.d (dI ts)] M Φ Ξ := ⟨ts, rfl, h1, h2, h⟩
theorem use_joined {ts : List Int} {M : Mem} {Φ : Pst} {Ξ : EV → Mem → Prop} (h1 : ts.length ≤ 60) (h2 : ∀ t ∈ ts, t ≠ 0) (h : ∀ p, Φ (.cell p) ((p, Is (rI (joinL ts))) :: M)) : pdJoined [.d (dI ts)] M Φ Ξ := ⟨ts, rfl, h1, h2, h⟩
theorem use_joinedK {ts : List Int} {M : Mem} {Φ : Pst} {Ξ : EV → Mem → Prop} (h1 : ts.length ≤ 60) (h2 : ∀ t ∈ ts, t ≠ 0) (h : ∀ p, Φ (.cell p) ((p, Is (rI (joinL ts))) :: M)) : [Rv.d (dI ts)].length = (["turns"] : List Str).length ∧ pdJoined (pick ["turns"] ["turns"] [.d (dI ts)]) M Φ Ξ := ⟨rfl, ts, rfl, h1, h2, h⟩
theorem use_way {ts : List Int} {M : Mem} {Φ : Pst} {Ξ : EV → Mem → Prop} (h1 : ts.length ≤ 60) (h2 : ∀ t ∈ ts, t ≠ 0) (h : Φ (.d (.int (wayL ts))) M) : pdWay [.d (dI ts)] M Φ Ξ := ⟨ts, rfl, h1, h2, h⟩
theorem use_wayK {ts : List Int} {M : Mem} {Φ : Pst} {Ξ : EV → Mem → Prop} (h1 : ts.length ≤ 60) (h2 : ∀ t ∈ ts, t ≠ 0) (h : Φ (.d (.int (wayL ts))) M) : [Rv.d (dI ts)].length = (["turns"] : List Str).length ∧ pdWay (pick ["turns"] ["turns"] [.d (dI ts)]) M Φ Ξ := ⟨rfl, ts, rfl, h1, h2, h⟩
theorem use_turned {ring : Int} {ps xs ts : List Int} {d : Int} {M : Mem} {Φ : Pst} {Ξ : EV → Mem → Prop} (h1 : 2 ≤ ring) (h2 : Plays ps) (h3 : Stand d ps xs) (h4 : ts.length ≤ 60) (h5 : ∀ t ∈ ts, t ≠ 0) (h : Φ (.d (endL ps d xs ts)) M) : pdTurned [.d (dP ring ps), .d (dP d xs), .d (dI ts)] M Φ Ξ := ⟨ring, ps, xs, ts, d, rfl, h1, h2, h3, h4, h5, h⟩
local macro_rules | `(tactic| walk_at "ex") => `(tactic| first
  | ((with_reducible apply use_due); (case h1 => with_reducible assumption); (case h2 => with_reducible assumption))
  | ((with_reducible apply use_joined); (case h1 => with_reducible assumption); (case h2 => with_reducible assumption))
  | ((with_reducible apply use_joinedK); (case h1 => with_reducible assumption); (case h2 => with_reducible assumption))
  | ((with_reducible apply use_way); (case h1 => with_reducible assumption); (case h2 => with_reducible assumption))
  | ((with_reducible apply use_wayK); (case h1 => with_reducible assumption); (case h2 => with_reducible assumption))
  | ((with_reducible apply use_turned); (case h1 => with_reducible assumption); (case h2 => with_reducible assumption); (case h3 => with_reducible assumption); (case h4 => with_reducible assumption); (case h5 => with_reducible assumption))
  | fail "stuck")
theorem way_nn (ts : List Int) : 0 ≤ wayL ts := by
  rw [wayL]
  induction ts with
  | nil => exact Int.le_refl _
  | cons t ts ih => rw [List.map_cons, List.sum_cons]; omega
theorem way_cons (t : Int) (ts : List Int) : wayL (t :: ts) = (t.natAbs : Int) + wayL ts := by rw [wayL, List.map_cons, List.sum_cons]; rfl
theorem mem_way {x : Int} : ∀ {ts : List Int}, x ∈ ts → (x.natAbs : Int) ≤ wayL ts
  | t :: ts, h => by
    rw [way_cons]
    rcases List.mem_cons.mp h with rfl | h
    · have := way_nn ts; omega
    · have := mem_way h; omega
theorem way_len : ∀ {ts : List Int}, (∀ t ∈ ts, t.natAbs ≤ 10 ^ 30) → wayL ts ≤ ts.length * 10 ^ 30
  | [], _ => by show (0 : Int) ≤ _; simp
  | t :: ts, h => by
    have h1 := h t (List.mem_cons_self ..)
    have h2 := way_len (ts := ts) fun x hx => h x (List.mem_cons_of_mem _ hx)
    rw [way_cons, List.length_cons]
    omega
theorem way_le {ts : List Int} (h : ∀ t ∈ ts, t.natAbs ≤ 10 ^ 30) (hl : ts.length ≤ 60) : wayL ts ≤ 60 * 10 ^ 30 := by
  have := way_len h
  omega
def pdRight : Prom := fun rs M Φ _ => ∃ (ring : Int) (ps xs ts : List Int) (d : Int), rs = [.d (dP ring ps), .d (dP d xs), .d (dI ts)] ∧ 2 ≤ ring ∧ Plays ps ∧ Stand d ps xs ∧ ts.length ≤ 60 ∧ (∀ t ∈ ts, t ≠ 0 ∧ t.natAbs ≤ 10 ^ 30) ∧ Φ (.d (.bool true)) M
abbrev s_law_right : Stmt := topS 32
theorem sc_law_right : FnScope ["pack", "stand", "swings", "kept", "due", "way", "lap", "told", "swing"] ["pack", "stand", "swings"] (defScope s_law_right) := ⟨rfl, rfl, rfl, by decide +kernel, rfl, by decide +kernel, by decide +kernel⟩
theorem vs_law_right {X : Cx} (cx : Cxt X ["pack", "stand", "swings", "kept", "due", "way", "lap", "told", "swing"] (defScope s_law_right)) : Var X 0 "pack" ∧ Var X 1 "stand" ∧ Var X 2 "swings" ∧ Var X 3 "kept" ∧ Var X 4 "due" ∧ Var X 5 "way" ∧ Var X 6 "lap" ∧ Var X 7 "told" ∧ Nm X 8 "swing" :=
  ⟨cx.var rfl (.inl rfl) (by decide) (by decide), cx.var rfl (.inl rfl) (by decide) (by decide), cx.var rfl (.inl rfl) (by decide) (by decide), cx.var rfl (.inl rfl) (by decide) (by decide), cx.var rfl (.inl rfl) (by decide) (by decide), cx.var rfl (.inl rfl) (by decide) (by decide), cx.var rfl (.inl rfl) (by decide) (by decide), cx.var rfl (.inl rfl) (by decide) (by decide), cx.nm rfl⟩
theorem gs_law_right {X : Cx} (cx : Cxt X ["pack", "stand", "swings", "kept", "due", "way", "lap", "told", "swing"] (defScope s_law_right)) : Gl X "list" ∧ Gl X "_law_due" ∧ Gl X "sum" ∧ Gl X "range" ∧ Gl X "joined_turns" ∧ Gl X "repr" ∧ Gl X "way_of" ∧ Gl X "turned_state" :=
  ⟨cx.gl rfl, cx.gl rfl, cx.gl rfl, cx.gl rfl, cx.gl rfl, cx.gl rfl, cx.gl rfl, cx.gl rfl⟩
theorem ok_law_right {P : Program} {w : World} {K : Frg} {mg : Str → Option Value} {base : Heap} {f : Addr} {fd : FuncData} (F : L2.Fun K "_law_right" "_law_right" s_law_right f fd) (d_law_due : DefG P w K mg base "_law_due" 1 ["swings"] [] pdDue) (d_joined_turns : DefG P w K mg base "joined_turns" 4 ["turns"] [["turns"]] pdJoined) (d_way_of : DefG P w K mg base "way_of" 4 ["turns"] [["turns"]] pdWay) (d_turned_state : DefG P w K mg base "turned_state" 6 ["lock", "state", "turns"] [] pdTurned) (m_list : mg "list" = none) (m_sum : mg "sum" = none) (m_range : mg "range" = none) (m_repr : mg "repr" = none) : FnD P w K mg base 7 f fd ["pack", "stand", "swings"] pdRight := by
  refine Fun.okD [.any, .any, .any, .any, .any, .any] F sc_law_right rfl rfl (fun rs M Φ Ξ ⟨_, _, _, _, _, e, _⟩ => by rw [e]; rfl) fun X hP hw hK hm hb cx hr rs M Φ Ξ h => ?_
  subst hP hw hK hm hb
  obtain ⟨v0, v1, v2, v3, v4, v5, v6, v7, v8⟩ := vs_law_right cx
  obtain ⟨g_list, g_law_due, g_sum, g_range, g_joined_turns, g_repr, g_way_of, g_turned_state⟩ := gs_law_right cx
  have c_law_due := d_law_due.df (show 1 ≤ 6 by decide)
  have c_joined_turns := d_joined_turns.df (show 4 ≤ 6 by decide)
  have c_way_of := d_way_of.df (show 4 ≤ 6 by decide)
  have c_turned_state := d_turned_state.df (show 6 ≤ 6 by decide)
  have b_list : Bi X "list" (.type "list") := .mk' m_list (by decide +kernel) (by decide) (by decide)
  have b_sum : Bi X "sum" (.builtin "sum") := .mk' m_sum (by first | exact PySem.boot_len | decide +kernel) (by decide) (by decide)
  have b_repr : Bi X "repr" (.builtin "repr") := .mk' m_repr (by first | exact PySem.boot_len | decide +kernel) (by decide) (by decide)
  have nd := cx.nd
  have calm := cx.calm
  have gu := cx.gu
  have pass := cx.pass
  obtain ⟨ring, ps, xs, ts, d, rfl, h1, h2, h3, h4, h5, q⟩ := h
  have h6 : ∀ t ∈ ts, t ≠ 0 := fun t ht => (h5 t ht).1
  have hu : X.A.units + 64 < cLine := by have := hr.un; omega
  have j2 : ∀ t ∈ joinL ts, t ≠ 0 := join_nz h6
  have j1 : (joinL ts).length ≤ 60 := Nat.le_trans (joinL_len ts) h4
  have w0 : ∀ t ∈ ts, t.natAbs ≤ 10 ^ 30 := fun t ht => (h5 t ht).2
  have w1 := way_le w0 h4
  have w2 : ∀ x ∈ joinL ts, x.natAbs < 10 ^ 50 := fun x hx => by
    have := mem_way hx
    rw [join_way h6] at this
    omega
  have s1 : Sh 60 1 (dI (joinL ts)) := (Sh.dI w2).mono j1 (Nat.le_refl _)
  have s2 : Sh 0 0 (.int (wayL ts)) := .int (by have := way_nn ts; omega)
  have s3 : Sh 60 1 (dI ts) := (Sh.dI fun x hx => by have := w0 x hx; omega).mono h4 (Nat.le_refl _)
  have s4 : Lo 2 (endL ps d xs ts) := by rw [endL_S]; exact .dP
  have s5 : Lo 2 (endL ps d xs (joinL ts)) := by rw [endL_S]; exact .dP
  have e1 := join_way h6
  have e2 := join_join h6
  have s6 : Sh 60 1 (dI (joinL (joinL ts))) := by rw [e2]; exact s1
  have s7 : Sh 0 0 (.int (wayL (joinL ts))) := by rw [e1]; exact s2
  have e3 := endL_join (ps := ps) (d := d) (xs := xs) h6
  dsimp only [List.cons_append, List.nil_append]
  refine sq ?_
  repeat' walk_at "e"
  refine ge_lc [("swing", 8)] (.inl rfl) (by simp) calm nd ?_ ?_ ?_
  · exact cx.blk (by decide +kernel)
  · intro _; rfl
  repeat' walk_at "e"
  rw [rI_d]
  refine compD_map (f := fun i => .int (i.natAbs : Int)) (szL (by omega)) (fun x hx => ?_) ?_
  · skip
    repeat' walk_at "e"
    · rename_i hp; exact ⟨by rw [show (x.natAbs : Int) = x by omega], rfl⟩
    · rename_i hp; exact ⟨by rw [show (x.natAbs : Int) = 0 - x by omega], rfl⟩
  refine ⟨(ts.map fun i => (i.natAbs : Int)).map PyData.int, by simp, ?_⟩
  repeat' walk_at "e"
  rw [show (ts.map fun i => (i.natAbs : Int)).sum = wayL ts from rfl]
  refine for_map (fun pre ρ M' => ∃ (G : Mem) (y z : Rv), ρ = [.d (dP ring ps), .d (dP d xs), .d (dI ts), .d (dI ts), .d (dI (joinL ts)), .d (.int (wayL ts)), y, z, .any] ∧ M' = G ++ M) ?_ ?_ ?_
  · exact ⟨[], _, _, rfl, rfl⟩
  · rintro pre x post ρ' M' e ⟨G, y, z, rfl, rfl⟩
    repeat' walk_at "e"
    · rename_i hh; rw [s3.eqv] at hh; cases hh
    · exact ⟨_ :: _ :: G, _, _, rfl, rfl⟩
    · rename_i hh _; exact absurd trivial hh
  · rintro ρ' M' ⟨G, y, z, rfl, rfl⟩
    repeat' walk_at "e"
    · rename_i hh; exact absurd (by rw [e1, e2]) hh
    · refine ⟨M, ?_, ?_⟩
      · walk_at "le"
      · rw [e3, s4.eqv]; exact q
end LW

namespace LW
theorem use_coil {xs : List Int} {k : Int} {M : Mem} {Φ : Pst} {Ξ : EV → Mem → Prop} (h0 : 0 ≤ k) (h1 : k ≤ 100) (h : ∀ p, Φ (.cell p) ((p, Coil 0) :: M)) : pdCoil [.d (dI xs), .d (.int k)] M Φ Ξ := ⟨xs, k, rfl, h0, h1, h⟩
theorem use_pack {c : Addr} {k : Nat} {M M' : Mem} {mo fa : Int} {Φ : Pst} {Ξ : EV → Mem → Prop} (hc : Cell c (Coil k) (Coil (k + 200)) M M') (h1 : 1 ≤ mo) (h2 : mo ≤ 60) (h3 : 1 ≤ fa) (h4 : fa ≤ 10 ^ 30) (hk : k ≤ 900000)
    (h : ∀ (ring : Int) (ps : List Int), 2 ≤ ring → ring < 10 ^ 31 → 1 ≤ ps.length → (ps.length : Int) ≤ mo → (∀ p ∈ ps, 0 ≤ p ∧ p < 10 ^ 32) → Φ (.d (dP ring ps)) M') : pdPack [.cell c, .d (.int mo), .d (.int fa)] M Φ Ξ := ⟨c, k, M', mo, fa, rfl, h1, h2, h3, h4, hk, hc, h⟩
theorem use_stand {c : Addr} {k : Nat} {M M' : Mem} {ring fa : Int} {ps : List Int} {Φ : Pst} {Ξ : EV → Mem → Prop} (hc : Cell c (Coil k) (Coil (k + 200)) M M') (hp : ∀ p ∈ ps, 0 ≤ p ∧ p < 10 ^ 32) (h1 : ps.length ≤ 60) (h3 : 0 ≤ fa) (h4 : fa ≤ 10 ^ 32) (hk : k ≤ 900000)
    (h : ∀ (dial : Int) (xs : List Int), -fa ≤ dial → dial ≤ fa → Stand dial ps xs → Φ (.d (dP dial xs)) M') : pdStand [.cell c, .d (dP ring ps), .d (.int fa)] M Φ Ξ := ⟨c, k, M', ring, ps, fa, rfl, hp, h1, h3, h4, hk, hc, h⟩
theorem use_rows {c : Addr} {k : Nat} {M M' : Mem} {Φ : Pst} {Ξ : EV → Mem → Prop} (hc : Cell c (Coil k) (Coil (k + 200)) M M') (hk : k ≤ 900000) (h : ∀ ts : List Int, ts.length ≤ 60 → (∀ t ∈ ts, t ≠ 0 ∧ t.natAbs ≤ 10 ^ 30) → Φ (.d (dI ts)) M') : pdRows [.cell c] M Φ Ξ := ⟨c, k, M', rfl, hk, hc, h⟩
theorem use_right {ring : Int} {ps xs ts : List Int} {d : Int} {M : Mem} {Φ : Pst} {Ξ : EV → Mem → Prop} (h1 : 2 ≤ ring) (h2 : Plays ps) (h3 : Stand d ps xs) (h4 : ts.length ≤ 60) (h5 : ∀ t ∈ ts, t ≠ 0 ∧ t.natAbs ≤ 10 ^ 30) (h : Φ (.d (.bool true)) M) : pdRight [.d (dP ring ps), .d (dP d xs), .d (dI ts)] M Φ Ξ := ⟨ring, ps, xs, ts, d, rfl, h1, h2, h3, h4, h5, h⟩
inductive IntsL : List PyData → List Int → Prop
  | nil : IntsL [] []
  | cons {i : Int} {ds : List PyData} {ts : List Int} : IntsL ds ts → IntsL (.int i :: ds) (i :: ts)
theorem IntsL.eq {ds : List PyData} {ts : List Int} (h : IntsL ds ts) : ds = ts.map .int := by
  induction h with
  | nil => rfl
  | cons _ ih => rw [ih]; rfl
theorem use_joinedL {ds : List PyData} {ts : List Int} {M : Mem} {Φ : Pst} {Ξ : EV → Mem → Prop} (e : IntsL ds ts) (h1 : ts.length ≤ 60) (h2 : ∀ t ∈ ts, t ≠ 0) (h : ∀ p, Φ (.cell p) ((p, Is (rI (joinL ts))) :: M)) : pdJoined [.d (.list ds)] M Φ Ξ := ⟨ts, by rw [e.eq], h1, h2, h⟩
theorem use_wayL {ds : List PyData} {ts : List Int} {M : Mem} {Φ : Pst} {Ξ : EV → Mem → Prop} (e : IntsL ds ts) (h1 : ts.length ≤ 60) (h2 : ∀ t ∈ ts, t ≠ 0) (h : Φ (.d (.int (wayL ts))) M) : pdWay [.d (.list ds)] M Φ Ξ := ⟨ts, by rw [e.eq], h1, h2, h⟩
local macro_rules | `(tactic| walk_at "ints") => `(tactic| first | exact IntsL.nil | (apply IntsL.cons; walk_at "ints") | fail "ints")
local macro_rules | `(tactic| walk_at "ex") => `(tactic| first
  | ((with_reducible apply use_coil); (case h0 => omega); (case h1 => omega))
  | ((with_reducible apply use_pack); (case hc => walk_at "cell"); (case h1 => omega); (case h2 => omega); (case h3 => omega); (case h4 => omega); (case hk => omega))
  | ((with_reducible apply use_stand); (case hc => walk_at "cell"); (case hp => with_reducible assumption); (case h1 => omega); (case h3 => omega); (case h4 => omega); (case hk => omega))
  | ((with_reducible apply use_rows); (case hc => walk_at "cell"); (case hk => omega))
  | ((with_reducible apply use_joinedL); (case e => walk_at "ints"); (case h1 => decide); (case h2 => decide))
  | ((with_reducible apply use_wayL); (case e => walk_at "ints"); (case h1 => decide); (case h2 => decide))
  | fail "stuck")
def pdLaw : Prom := fun rs M Φ _ => ∃ xs : List Int, rs = [.d (dI xs)] ∧ xs.length ≤ 63 ∧ Φ (.d (.bool true)) M
abbrev s_law : Stmt := topS 33
theorem sc_law : FnScope ["script", "at", "coil", "lap", "pack", "told"] ["script"] (defScope s_law) := ⟨rfl, rfl, rfl, by decide +kernel, rfl, by decide +kernel, by decide +kernel⟩
theorem vs_law {X : Cx} (cx : Cxt X ["script", "at", "coil", "lap", "pack", "told"] (defScope s_law)) : Var X 0 "script" ∧ Var X 1 "at" ∧ Var X 2 "coil" ∧ Var X 3 "lap" ∧ Var X 4 "pack" ∧ Var X 5 "told" :=
  ⟨cx.var rfl (.inl rfl) (by decide) (by decide), cx.var rfl (.inl rfl) (by decide) (by decide), cx.var rfl (.inl rfl) (by decide) (by decide), cx.var rfl (.inl rfl) (by decide) (by decide), cx.var rfl (.inl rfl) (by decide) (by decide), cx.var rfl (.inl rfl) (by decide) (by decide)⟩
theorem gs_law {X : Cx} (cx : Cxt X ["script", "at", "coil", "lap", "pack", "told"] (defScope s_law)) : Gl X "range" ∧ Gl X "max" ∧ Gl X "min" ∧ Gl X "len" ∧ Gl X "_law_coil" ∧ Gl X "_law_pack" ∧ Gl X "_law_draw" ∧ Gl X "_law_right" ∧ Gl X "_law_stand" ∧ Gl X "_law_rows" ∧ Gl X "joined_turns" ∧ Gl X "way_of" :=
  ⟨cx.gl rfl, cx.gl rfl, cx.gl rfl, cx.gl rfl, cx.gl rfl, cx.gl rfl, cx.gl rfl, cx.gl rfl, cx.gl rfl, cx.gl rfl, cx.gl rfl, cx.gl rfl⟩
theorem ok_law {P : Program} {w : World} {K : Frg} {mg : Str → Option Value} {base : Heap} {f : Addr} {fd : FuncData} (F : L2.Fun K "law" "law" s_law f fd) (d_law_coil : DefG P w K mg base "_law_coil" 1 ["script", "at"] [] pdCoil) (d_law_pack : DefG P w K mg base "_law_pack" 2 ["coil", "most", "far"] [] pdPack) (d_law_draw : DefG P w K mg base "_law_draw" 1 ["coil", "bound"] [] pdDraw) (d_law_right : DefG P w K mg base "_law_right" 7 ["pack", "stand", "swings"] [] pdRight) (d_law_stand : DefG P w K mg base "_law_stand" 2 ["coil", "pack", "far"] [] pdStand) (d_law_rows : DefG P w K mg base "_law_rows" 2 ["coil"] [] pdRows) (d_joined_turns : DefG P w K mg base "joined_turns" 4 ["turns"] [["turns"]] pdJoined) (d_way_of : DefG P w K mg base "way_of" 4 ["turns"] [["turns"]] pdWay) (m_range : mg "range" = none) (m_max : mg "max" = none) (m_min : mg "min" = none) (m_len : mg "len" = none) : FnD P w K mg base 8 f fd ["script"] pdLaw := by
  refine Fun.okD [.any, .any, .any, .any, .any] F sc_law rfl rfl (fun rs M Φ Ξ ⟨_, e, _⟩ => by rw [e]; rfl) fun X hP hw hK hm hb cx hr rs M Φ Ξ h => ?_
  subst hP hw hK hm hb
  obtain ⟨v0, v1, v2, v3, v4, v5⟩ := vs_law cx
  obtain ⟨g_range, g_max, g_min, g_len, g_law_coil, g_law_pack, g_law_draw, g_law_right, g_law_stand, g_law_rows, g_joined_turns, g_way_of⟩ := gs_law cx
  have c_law_coil := d_law_coil.df (show 1 ≤ 7 by decide)
  have c_law_pack := d_law_pack.df (show 2 ≤ 7 by decide)
  have c_law_draw := d_law_draw.df (show 1 ≤ 7 by decide)
  have c_law_right := d_law_right.df (show 7 ≤ 7 by decide)
  have c_law_stand := d_law_stand.df (show 2 ≤ 7 by decide)
  have c_law_rows := d_law_rows.df (show 2 ≤ 7 by decide)
  have c_joined_turns := d_joined_turns.df (show 4 ≤ 7 by decide)
  have c_way_of := d_way_of.df (show 4 ≤ 7 by decide)
  have b_max : Bi X "max" (.builtin "max") := .mk' m_max (by first | exact PySem.boot_len | decide +kernel) (by decide) (by decide)
  have b_min : Bi X "min" (.builtin "min") := .mk' m_min (by first | exact PySem.boot_len | decide +kernel) (by decide) (by decide)
  have b_len : Bi X "len" (.builtin "len") := .mk' m_len (by first | exact PySem.boot_len | decide +kernel) (by decide) (by decide)
  have nd := cx.nd
  have calm := cx.calm
  have gu := cx.gu
  have pass := cx.pass
  obtain ⟨ts, rfl, h1, q⟩ := h
  have hu : X.A.units + 64 < cLine := by have := hr.un; omega
  dsimp only [List.cons_append, List.nil_append]
  refine sq ?_
  repeat' walk_at "e"
  refine for_map (fun pre ρ M' => ∃ (G : Mem) (a1 a2 a3 a4 a5 : Rv), ρ = [.d (dI ts), a1, a2, a3, a4, a5] ∧ M' = G ++ M) ?_ ?_ ?_
  · exact ⟨[], _, _, _, _, _, rfl, rfl⟩
  · rintro pre x post ρ' M' e ⟨G, a1, a2, a3, a4, a5, rfl, rfl⟩
    have hx : x < (max 1 (min 8 (ts.length : Int))).toNat := List.mem_range.mp (by rw [e]; simp)
    repeat' walk_at "e"
    rename_i p
    refine for_map (fun pre ρ M' => ∃ (a3 a4 a5 : Rv) (j : Nat), ρ = [.d (dI ts), .d (.int x), .cell p, a3, a4, a5] ∧ M' = (p, Coil j) :: (G ++ M) ∧ j ≤ 1000 * pre.length) ?_ ?_ ?_
    · exact ⟨_, _, _, 0, rfl, rfl, by omega⟩
    · rintro pre x post ρ' M' e ⟨a3, a4, a5, j, rfl, rfl, hj⟩
      have el := congrArg List.length e
      rw [List.length_range, List.length_append, List.length_cons] at el
      repeat' walk_at "e"
      refine ix_menu (fun v => 1 ≤ v ∧ v ≤ 10 ^ 26) (by omega) (by simp only [List.length_cons, List.length_nil]; omega) (.cons (by omega) (.cons (by omega) .nil)) fun far hf => ?_
      repeat' walk_at "e"
      rename_i ring ps hr2 _ hl1 hl2 hps dial xs _ _ hs us hu1 hu2
      refine use_right hr2 ⟨hl1, by omega, fun p hp => (hps p hp).1⟩ hs hu1 hu2 ?_
      repeat' walk_at "e"
      exact ⟨_, _, _, _, rfl, rfl, by simp; omega⟩
    · rintro ρ' M' ⟨a3, a4, a5, j, rfl, rfl, hj⟩
      repeat' walk_at "e"
      exact ⟨_ :: G, _, _, _, _, _, rfl, rfl⟩
  · rintro ρ' M' ⟨G, a1, a2, a3, a4, a5, rfl, rfl⟩
    repeat' walk_at "e"
    refine ⟨M, by walk_at "le", ?_⟩
    rw [show PyData.eqv _ _ = true by decide +kernel]
    exact q
end LW

namespace LW
theorem all_mk {l : PySem.W.OpenLaw} {w : World} {K : Frg} {h : Heap} {mg : Str → Option Value} {fa : Addr} (X : K.In h) (G : h.Ns mainGlobals mg) (hfa : mg "law" = some (.ref fa))
    (i_is_integer : FunIn K "is_integer" "is_integer" s_is_integer)
    (i_is_at_least : FunIn K "is_at_least" "is_at_least" s_is_at_least)
    (i_is_turn : FunIn K "is_turn" "is_turn" s_is_turn)
    (i_is_pair : FunIn K "is_pair" "is_pair" s_is_pair)
    (i_are_plays : FunIn K "are_plays" "are_plays" s_are_plays)
    (i_are_places : FunIn K "are_places" "are_places" s_are_places)
    (i_check_lock : FunIn K "check_lock" "check_lock" s_check_lock)
    (i_check_state : FunIn K "check_state" "check_state" s_check_state)
    (i_check_turns : FunIn K "check_turns" "check_turns" s_check_turns)
    (i_turned_once : FunIn K "_turned_once" "_turned_once" s_turned_once)
    (i_state_trail : FunIn K "state_trail" "state_trail" s_state_trail)
    (i_turned_state : FunIn K "turned_state" "turned_state" s_turned_state)
    (i_way_of : FunIn K "way_of" "way_of" s_way_of)
    (i_joined_turns : FunIn K "joined_turns" "joined_turns" s_joined_turns)
    (i_law_coil : FunIn K "_law_coil" "_law_coil" s_law_coil)
    (i_law_draw : FunIn K "_law_draw" "_law_draw" s_law_draw)
    (i_law_pack : FunIn K "_law_pack" "_law_pack" s_law_pack)
    (i_law_stand : FunIn K "_law_stand" "_law_stand" s_law_stand)
    (i_law_rows : FunIn K "_law_rows" "_law_rows" s_law_rows)
    (i_law_due : FunIn K "_law_due" "_law_due" s_law_due)
    (i_law_right : FunIn K "_law_right" "_law_right" s_law_right)
    (i_law : FunIn K "law" "law" s_law)
    (j_LEAST_RING : ConIn K "LEAST_RING" (.int 2))
    (j_MOST_TURNS : ConIn K "MOST_TURNS" (.int 60))
    (j_MOST_WHEELS : ConIn K "MOST_WHEELS" (.int 8))
    (z_abs : PySem.W.nsIn K mainGlobals "abs" = some none)
    (z_all : PySem.W.nsIn K mainGlobals "all" = some none)
    (z_bool : PySem.W.nsIn K mainGlobals "bool" = some none)
    (z_enumerate : PySem.W.nsIn K mainGlobals "enumerate" = some none)
    (z_int : PySem.W.nsIn K mainGlobals "int" = some none)
    (z_isinstance : PySem.W.nsIn K mainGlobals "isinstance" = some none)
    (z_len : PySem.W.nsIn K mainGlobals "len" = some none)
    (z_list : PySem.W.nsIn K mainGlobals "list" = some none)
    (z_max : PySem.W.nsIn K mainGlobals "max" = some none)
    (z_min : PySem.W.nsIn K mainGlobals "min" = some none)
    (z_range : PySem.W.nsIn K mainGlobals "range" = some none)
    (z_repr : PySem.W.nsIn K mainGlobals "repr" = some none)
    (z_sum : PySem.W.nsIn K mainGlobals "sum" = some none)
    (z_tuple : PySem.W.nsIn K mainGlobals "tuple" = some none)
    (z_zip : PySem.W.nsIn K mainGlobals "zip" = some none)
    : ∃ fd : FuncData, (∀ (s : Shared) (v : Value), BindsTo s fd ⟨[v], []⟩ [("script", v)]) ∧ ∀ base : Heap, K.In base → base.Ns mainGlobals mg → FnD l.prog w K mg base 8 fa fd ["script"] pdLaw := by
  have m_abs := PySem.W.mg_none_of X G z_abs
  have m_all := PySem.W.mg_none_of X G z_all
  have m_bool := PySem.W.mg_none_of X G z_bool
  have m_enumerate := PySem.W.mg_none_of X G z_enumerate
  have m_int := PySem.W.mg_none_of X G z_int
  have m_isinstance := PySem.W.mg_none_of X G z_isinstance
  have m_len := PySem.W.mg_none_of X G z_len
  have m_list := PySem.W.mg_none_of X G z_list
  have m_max := PySem.W.mg_none_of X G z_max
  have m_min := PySem.W.mg_none_of X G z_min
  have m_range := PySem.W.mg_none_of X G z_range
  have m_repr := PySem.W.mg_none_of X G z_repr
  have m_sum := PySem.W.mg_none_of X G z_sum
  have m_tuple := PySem.W.mg_none_of X G z_tuple
  have m_zip := PySem.W.mg_none_of X G z_zip
  have c_LEAST_RING := j_LEAST_RING.glo X G (by decide)
  have c_MOST_TURNS := j_MOST_TURNS.glo X G (by decide)
  have c_MOST_WHEELS := j_MOST_WHEELS.glo X G (by decide)
  obtain ⟨f_is_integer, _, _, an_is_integer, _, kV_is_integer, dc_is_integer, pm_is_integer, cd_is_integer, ct_is_integer, a_is_integer, l_is_integer, q_is_integer, k_is_integer⟩ := i_is_integer
  have F_is_integer := fun_mk (st := s_is_integer) l_is_integer q_is_integer k_is_integer
  have g_is_integer := PySem.W.mg_of X G a_is_integer
  obtain ⟨f_is_at_least, _, _, an_is_at_least, _, kV_is_at_least, dc_is_at_least, pm_is_at_least, cd_is_at_least, ct_is_at_least, a_is_at_least, l_is_at_least, q_is_at_least, k_is_at_least⟩ := i_is_at_least
  have F_is_at_least := fun_mk (st := s_is_at_least) l_is_at_least q_is_at_least k_is_at_least
  have g_is_at_least := PySem.W.mg_of X G a_is_at_least
  obtain ⟨f_is_turn, _, _, an_is_turn, _, kV_is_turn, dc_is_turn, pm_is_turn, cd_is_turn, ct_is_turn, a_is_turn, l_is_turn, q_is_turn, k_is_turn⟩ := i_is_turn
  have F_is_turn := fun_mk (st := s_is_turn) l_is_turn q_is_turn k_is_turn
  have g_is_turn := PySem.W.mg_of X G a_is_turn
  obtain ⟨f_is_pair, _, _, an_is_pair, _, kV_is_pair, dc_is_pair, pm_is_pair, cd_is_pair, ct_is_pair, a_is_pair, l_is_pair, q_is_pair, k_is_pair⟩ := i_is_pair
  have F_is_pair := fun_mk (st := s_is_pair) l_is_pair q_is_pair k_is_pair
  have g_is_pair := PySem.W.mg_of X G a_is_pair
  obtain ⟨f_are_plays, _, _, an_are_plays, _, kV_are_plays, dc_are_plays, pm_are_plays, cd_are_plays, ct_are_plays, a_are_plays, l_are_plays, q_are_plays, k_are_plays⟩ := i_are_plays
  have F_are_plays := fun_mk (st := s_are_plays) l_are_plays q_are_plays k_are_plays
  have g_are_plays := PySem.W.mg_of X G a_are_plays
  obtain ⟨f_are_places, _, _, an_are_places, _, kV_are_places, dc_are_places, pm_are_places, cd_are_places, ct_are_places, a_are_places, l_are_places, q_are_places, k_are_places⟩ := i_are_places
  have F_are_places := fun_mk (st := s_are_places) l_are_places q_are_places k_are_places
  have g_are_places := PySem.W.mg_of X G a_are_places
  obtain ⟨f_check_lock, _, _, an_check_lock, _, kV_check_lock, dc_check_lock, pm_check_lock, cd_check_lock, ct_check_lock, a_check_lock, l_check_lock, q_check_lock, k_check_lock⟩ := i_check_lock
  have F_check_lock := fun_mk (st := s_check_lock) l_check_lock q_check_lock k_check_lock
  have g_check_lock := PySem.W.mg_of X G a_check_lock
  obtain ⟨f_check_state, _, _, an_check_state, _, kV_check_state, dc_check_state, pm_check_state, cd_check_state, ct_check_state, a_check_state, l_check_state, q_check_state, k_check_state⟩ := i_check_state
  have F_check_state := fun_mk (st := s_check_state) l_check_state q_check_state k_check_state
  have g_check_state := PySem.W.mg_of X G a_check_state
  obtain ⟨f_check_turns, _, _, an_check_turns, _, kV_check_turns, dc_check_turns, pm_check_turns, cd_check_turns, ct_check_turns, a_check_turns, l_check_turns, q_check_turns, k_check_turns⟩ := i_check_turns
  have F_check_turns := fun_mk (st := s_check_turns) l_check_turns q_check_turns k_check_turns
  have g_check_turns := PySem.W.mg_of X G a_check_turns
  obtain ⟨f_turned_once, _, _, an_turned_once, _, kV_turned_once, dc_turned_once, pm_turned_once, cd_turned_once, ct_turned_once, a_turned_once, l_turned_once, q_turned_once, k_turned_once⟩ := i_turned_once
  have F_turned_once := fun_mk (st := s_turned_once) l_turned_once q_turned_once k_turned_once
  have g_turned_once := PySem.W.mg_of X G a_turned_once
  obtain ⟨f_state_trail, _, _, an_state_trail, _, kV_state_trail, dc_state_trail, pm_state_trail, cd_state_trail, ct_state_trail, a_state_trail, l_state_trail, q_state_trail, k_state_trail⟩ := i_state_trail
  have F_state_trail := fun_mk (st := s_state_trail) l_state_trail q_state_trail k_state_trail
  have g_state_trail := PySem.W.mg_of X G a_state_trail
  obtain ⟨f_turned_state, _, _, an_turned_state, _, kV_turned_state, dc_turned_state, pm_turned_state, cd_turned_state, ct_turned_state, a_turned_state, l_turned_state, q_turned_state, k_turned_state⟩ := i_turned_state
  have F_turned_state := fun_mk (st := s_turned_state) l_turned_state q_turned_state k_turned_state
  have g_turned_state := PySem.W.mg_of X G a_turned_state
  obtain ⟨f_way_of, _, _, an_way_of, _, kV_way_of, dc_way_of, pm_way_of, cd_way_of, ct_way_of, a_way_of, l_way_of, q_way_of, k_way_of⟩ := i_way_of
  have F_way_of := fun_mk (st := s_way_of) l_way_of q_way_of k_way_of
  have g_way_of := PySem.W.mg_of X G a_way_of
  obtain ⟨f_joined_turns, _, _, an_joined_turns, _, kV_joined_turns, dc_joined_turns, pm_joined_turns, cd_joined_turns, ct_joined_turns, a_joined_turns, l_joined_turns, q_joined_turns, k_joined_turns⟩ := i_joined_turns
  have F_joined_turns := fun_mk (st := s_joined_turns) l_joined_turns q_joined_turns k_joined_turns
  have g_joined_turns := PySem.W.mg_of X G a_joined_turns
  obtain ⟨f_law_coil, _, _, an_law_coil, _, kV_law_coil, dc_law_coil, pm_law_coil, cd_law_coil, ct_law_coil, a_law_coil, l_law_coil, q_law_coil, k_law_coil⟩ := i_law_coil
  have F_law_coil := fun_mk (st := s_law_coil) l_law_coil q_law_coil k_law_coil
  have g_law_coil := PySem.W.mg_of X G a_law_coil
  obtain ⟨f_law_draw, _, _, an_law_draw, _, kV_law_draw, dc_law_draw, pm_law_draw, cd_law_draw, ct_law_draw, a_law_draw, l_law_draw, q_law_draw, k_law_draw⟩ := i_law_draw
  have F_law_draw := fun_mk (st := s_law_draw) l_law_draw q_law_draw k_law_draw
  have g_law_draw := PySem.W.mg_of X G a_law_draw
  obtain ⟨f_law_pack, _, _, an_law_pack, _, kV_law_pack, dc_law_pack, pm_law_pack, cd_law_pack, ct_law_pack, a_law_pack, l_law_pack, q_law_pack, k_law_pack⟩ := i_law_pack
  have F_law_pack := fun_mk (st := s_law_pack) l_law_pack q_law_pack k_law_pack
  have g_law_pack := PySem.W.mg_of X G a_law_pack
  obtain ⟨f_law_stand, _, _, an_law_stand, _, kV_law_stand, dc_law_stand, pm_law_stand, cd_law_stand, ct_law_stand, a_law_stand, l_law_stand, q_law_stand, k_law_stand⟩ := i_law_stand
  have F_law_stand := fun_mk (st := s_law_stand) l_law_stand q_law_stand k_law_stand
  have g_law_stand := PySem.W.mg_of X G a_law_stand
  obtain ⟨f_law_rows, _, _, an_law_rows, _, kV_law_rows, dc_law_rows, pm_law_rows, cd_law_rows, ct_law_rows, a_law_rows, l_law_rows, q_law_rows, k_law_rows⟩ := i_law_rows
  have F_law_rows := fun_mk (st := s_law_rows) l_law_rows q_law_rows k_law_rows
  have g_law_rows := PySem.W.mg_of X G a_law_rows
  obtain ⟨f_law_due, _, _, an_law_due, _, kV_law_due, dc_law_due, pm_law_due, cd_law_due, ct_law_due, a_law_due, l_law_due, q_law_due, k_law_due⟩ := i_law_due
  have F_law_due := fun_mk (st := s_law_due) l_law_due q_law_due k_law_due
  have g_law_due := PySem.W.mg_of X G a_law_due
  obtain ⟨f_law_right, _, _, an_law_right, _, kV_law_right, dc_law_right, pm_law_right, cd_law_right, ct_law_right, a_law_right, l_law_right, q_law_right, k_law_right⟩ := i_law_right
  have F_law_right := fun_mk (st := s_law_right) l_law_right q_law_right k_law_right
  have g_law_right := PySem.W.mg_of X G a_law_right
  obtain ⟨f_law, _, _, an_law, _, kV_law, dc_law, pm_law, cd_law, ct_law, a_law, l_law, q_law, k_law⟩ := i_law
  have F_law := fun_mk (st := s_law) l_law q_law k_law
  have g_law := PySem.W.mg_of X G a_law
  have e := hfa.symm.trans g_law
  cases e
  refine ⟨PySem.W.fnOf "law" "law" (defArgs s_law) (defBody s_law) (defScope s_law) .none kV_law dc_law pm_law an_law cd_law ct_law, fun s v => .of_eq rfl, fun base _ _ => ?_⟩
  have d_is_integer : DefG l.prog w K mg base "is_integer" 1 ["value"] [] pdIsI := ⟨⟨_, _, ok_is_integer F_is_integer m_isinstance m_int m_bool, g_is_integer, k_is_integer, fun us hl => match us, hl with | [_], _ => rfl, fun ks hk => by cases hk⟩, by decide⟩
  have d_is_at_least : DefG l.prog w K mg base "is_at_least" 2 ["value", "least"] [] pdAtL := ⟨⟨_, _, ok_is_at_least F_is_at_least d_is_integer, g_is_at_least, k_is_at_least, fun us hl => match us, hl with | [_, _], _ => rfl, fun ks hk => by cases hk⟩, by decide⟩
  have d_is_turn : DefG l.prog w K mg base "is_turn" 2 ["value"] [] pdIsT := ⟨⟨_, _, ok_is_turn F_is_turn d_is_integer, g_is_turn, k_is_turn, fun us hl => match us, hl with | [_], _ => rfl, fun ks hk => by cases hk⟩, by decide⟩
  have d_is_pair : DefG l.prog w K mg base "is_pair" 1 ["value"] [] pdIs2 := ⟨⟨_, _, ok_is_pair F_is_pair m_isinstance m_tuple m_len, g_is_pair, k_is_pair, fun us hl => match us, hl with | [_], _ => rfl, fun ks hk => by cases hk⟩, by decide⟩
  have d_are_plays : DefG l.prog w K mg base "are_plays" 3 ["value"] [] pdPlays := ⟨⟨_, _, ok_are_plays F_are_plays d_is_at_least m_isinstance m_list m_len m_all c_MOST_WHEELS, g_are_plays, k_are_plays, fun us hl => match us, hl with | [_], _ => rfl, fun ks hk => by cases hk⟩, by decide⟩
  have d_are_places : DefG l.prog w K mg base "are_places" 2 ["plays", "dial", "value"] [] pdPlaces := ⟨⟨_, _, ok_are_places F_are_places d_is_integer m_isinstance m_list m_len m_zip, g_are_places, k_are_places, fun us hl => match us, hl with | [_, _, _], _ => rfl, fun ks hk => by cases hk⟩, by decide⟩
  have d_check_lock : DefG l.prog w K mg base "check_lock" 4 ["lock"] [] pdLock := ⟨⟨_, _, ok_check_lock F_check_lock d_is_pair d_is_at_least d_are_plays c_LEAST_RING, g_check_lock, k_check_lock, fun us hl => match us, hl with | [_], _ => rfl, fun ks hk => by cases hk⟩, by decide⟩
  have d_check_state : DefG l.prog w K mg base "check_state" 3 ["lock", "state"] [] pdState := ⟨⟨_, _, ok_check_state F_check_state d_is_pair d_is_integer d_are_places, g_check_state, k_check_state, fun us hl => match us, hl with | [_, _], _ => rfl, fun ks hk => by cases hk⟩, by decide⟩
  have d_check_turns : DefG l.prog w K mg base "check_turns" 3 ["turns"] [] pdTurns := ⟨⟨_, _, ok_check_turns F_check_turns d_is_turn m_isinstance m_list m_len m_enumerate c_MOST_TURNS, g_check_turns, k_check_turns, fun us hl => match us, hl with | [_], _ => rfl, fun ks hk => by cases hk⟩, by decide⟩
  have d_turned_once : DefG l.prog w K mg base "_turned_once" 1 ["lock", "state", "turn"] [] pdOnce := ⟨⟨_, _, ok_turned_once F_turned_once m_zip m_max m_min, g_turned_once, k_turned_once, fun us hl => match us, hl with | [_, _, _], _ => rfl, fun ks hk => by cases hk⟩, by decide⟩
  have d_state_trail : DefG l.prog w K mg base "state_trail" 5 ["lock", "state", "turns"] [] pdTrail := ⟨⟨_, _, ok_state_trail F_state_trail d_check_lock d_check_state d_check_turns d_turned_once, g_state_trail, k_state_trail, fun us hl => match us, hl with | [_, _, _], _ => rfl, fun ks hk => by cases hk⟩, by decide⟩
  have d_turned_state : DefG l.prog w K mg base "turned_state" 6 ["lock", "state", "turns"] [] pdTurned := ⟨⟨_, _, ok_turned_state F_turned_state d_state_trail m_list, g_turned_state, k_turned_state, fun us hl => match us, hl with | [_, _, _], _ => rfl, fun ks hk => by cases hk⟩, by decide⟩
  have d_way_of : DefG l.prog w K mg base "way_of" 4 ["turns"] [["turns"]] pdWay := ⟨⟨_, _, ok_way_of F_way_of d_check_turns m_sum m_abs, g_way_of, k_way_of, fun us hl => match us, hl with | [_], _ => rfl, fun ks hk ws hl => by
      simp only [List.mem_cons, List.not_mem_nil, or_false] at hk
      rcases hk with rfl
      · exact match ws, hl with | [_], _ => rfl⟩, by decide⟩
  have d_joined_turns : DefG l.prog w K mg base "joined_turns" 4 ["turns"] [["turns"]] pdJoined := ⟨⟨_, _, ok_joined_turns F_joined_turns d_check_turns, g_joined_turns, k_joined_turns, fun us hl => match us, hl with | [_], _ => rfl, fun ks hk ws hl => by
      simp only [List.mem_cons, List.not_mem_nil, or_false] at hk
      rcases hk with rfl
      · exact match ws, hl with | [_], _ => rfl⟩, by decide⟩
  have d_law_coil : DefG l.prog w K mg base "_law_coil" 1 ["script", "at"] [] pdCoil := ⟨⟨_, _, ok_law_coil F_law_coil m_len m_max m_abs m_int, g_law_coil, k_law_coil, fun us hl => match us, hl with | [_, _], _ => rfl, fun ks hk => by cases hk⟩, by decide⟩
  have d_law_draw : DefG l.prog w K mg base "_law_draw" 1 ["coil", "bound"] [] pdDraw := ⟨⟨_, _, ok_law_draw F_law_draw m_int, g_law_draw, k_law_draw, fun us hl => match us, hl with | [_, _], _ => rfl, fun ks hk => by cases hk⟩, by decide⟩
  have d_law_pack : DefG l.prog w K mg base "_law_pack" 2 ["coil", "most", "far"] [] pdPack := ⟨⟨_, _, ok_law_pack F_law_pack d_law_draw m_range, g_law_pack, k_law_pack, fun us hl => match us, hl with | [_, _, _], _ => rfl, fun ks hk => by cases hk⟩, by decide⟩
  have d_law_stand : DefG l.prog w K mg base "_law_stand" 2 ["coil", "pack", "far"] [] pdStand := ⟨⟨_, _, ok_law_stand F_law_stand d_law_draw, g_law_stand, k_law_stand, fun us hl => match us, hl with | [_, _, _], _ => rfl, fun ks hk => by cases hk⟩, by decide⟩
  have d_law_rows : DefG l.prog w K mg base "_law_rows" 2 ["coil"] [] pdRows := ⟨⟨_, _, ok_law_rows F_law_rows d_law_draw m_range, g_law_rows, k_law_rows, fun us hl => match us, hl with | [_], _ => rfl, fun ks hk => by cases hk⟩, by decide⟩
  have d_law_due : DefG l.prog w K mg base "_law_due" 1 ["swings"] [] pdDue := ⟨⟨_, _, ok_law_due F_law_due m_enumerate, g_law_due, k_law_due, fun us hl => match us, hl with | [_], _ => rfl, fun ks hk => by cases hk⟩, by decide⟩
  have d_law_right : DefG l.prog w K mg base "_law_right" 7 ["pack", "stand", "swings"] [] pdRight := ⟨⟨_, _, ok_law_right F_law_right d_law_due d_joined_turns d_way_of d_turned_state m_list m_sum m_range m_repr, g_law_right, k_law_right, fun us hl => match us, hl with | [_, _, _], _ => rfl, fun ks hk => by cases hk⟩, by decide⟩
  exact ok_law F_law d_law_coil d_law_pack d_law_draw d_law_right d_law_stand d_law_rows d_joined_turns d_way_of m_range m_max m_min m_len
end LW
open PySem PySem.W PyProof.Rows
set_option maxHeartbeats 0 in
theorem PySem.Challenge.cw_dialpack_k07_ways_and_joined_turns_holds : PySem.Challenge.rw_dialpack_k07_ways_and_joined_turns.Holds := by
  w_on; o_law; k_head; (case hw => w_witness2)
  k_fill
  refine Dl.walk_D (l := PySem.Challenge.rw_dialpack_k07_ways_and_joined_turns) (n := 63) (k := 8) (x := "script") (pd := LW.pdLaw) rfl (by decide) rfl ⟨rfl, by decide, by decide⟩ (fun w h Y => PySem.W.kIn_of Y) ?F (fun ns hl => ⟨ns, rfl, hl, rfl⟩)
  case F =>
    intro w mg fa h KX G hmg
    refine' LW.all_mk KX G hmg (Dl.fi ?a0 ?l0 ?c0 ?k0) (Dl.fi ?a1 ?l1 ?c1 ?k1) (Dl.fi ?a2 ?l2 ?c2 ?k2) (Dl.fi ?a3 ?l3 ?c3 ?k3) (Dl.fi ?a4 ?l4 ?c4 ?k4) (Dl.fi ?a5 ?l5 ?c5 ?k5) (Dl.fi ?a6 ?l6 ?c6 ?k6) (Dl.fi ?a7 ?l7 ?c7 ?k7) (Dl.fi ?a8 ?l8 ?c8 ?k8) (Dl.fi ?a9 ?l9 ?c9 ?k9) (Dl.fi ?a10 ?l10 ?c10 ?k10) (Dl.fi ?a11 ?l11 ?c11 ?k11) (Dl.fi ?a12 ?l12 ?c12 ?k12) (Dl.fi ?a13 ?l13 ?c13 ?k13) (Dl.fi ?a14 ?l14 ?c14 ?k14) (Dl.fi ?a15 ?l15 ?c15 ?k15) (Dl.fi ?a16 ?l16 ?c16 ?k16) (Dl.fi ?a17 ?l17 ?c17 ?k17) (Dl.fi ?a18 ?l18 ?c18 ?k18) (Dl.fi ?a19 ?l19 ?c19 ?k19) (Dl.fi ?a20 ?l20 ?c20 ?k20) (Dl.fi ?a21 ?l21 ?c21 ?k21) (Dl.ci ?j22) (Dl.ci ?j23) (Dl.ci ?j24) ?z25 ?z26 ?z27 ?z28 ?z29 ?z30 ?z31 ?z32 ?z33 ?z34 ?z35 ?z36 ?z37 ?z38 ?z39
    (case a0 => k_is)
    (case l0 => k_is)
    (case c0 => k_is)
    (case k0 => k_is)
    (case a1 => k_is)
    (case l1 => k_is)
    (case c1 => k_is)
    (case k1 => k_is)
    (case a2 => k_is)
    (case l2 => k_is)
    (case c2 => k_is)
    (case k2 => k_is)
    (case a3 => k_is)
    (case l3 => k_is)
    (case c3 => k_is)
    (case k3 => k_is)
    (case a4 => k_is)
    (case l4 => k_is)
    (case c4 => k_is)
    (case k4 => k_is)
    (case a5 => k_is)
    (case l5 => k_is)
    (case c5 => k_is)
    (case k5 => k_is)
    (case a6 => k_is)
    (case l6 => k_is)
    (case c6 => k_is)
    (case k6 => k_is)
    (case a7 => k_is)
    (case l7 => k_is)
    (case c7 => k_is)
    (case k7 => k_is)
    (case a8 => k_is)
    (case l8 => k_is)
    (case c8 => k_is)
    (case k8 => k_is)
    (case a9 => k_is)
    (case l9 => k_is)
    (case c9 => k_is)
    (case k9 => k_is)
    (case a10 => k_is)
    (case l10 => k_is)
    (case c10 => k_is)
    (case k10 => k_is)
    (case a11 => k_is)
    (case l11 => k_is)
    (case c11 => k_is)
    (case k11 => k_is)
    (case a12 => k_is)
    (case l12 => k_is)
    (case c12 => k_is)
    (case k12 => k_is)
    (case a13 => k_is)
    (case l13 => k_is)
    (case c13 => k_is)
    (case k13 => k_is)
    (case a14 => k_is)
    (case l14 => k_is)
    (case c14 => k_is)
    (case k14 => k_is)
    (case a15 => k_is)
    (case l15 => k_is)
    (case c15 => k_is)
    (case k15 => k_is)
    (case a16 => k_is)
    (case l16 => k_is)
    (case c16 => k_is)
    (case k16 => k_is)
    (case a17 => k_is)
    (case l17 => k_is)
    (case c17 => k_is)
    (case k17 => k_is)
    (case a18 => k_is)
    (case l18 => k_is)
    (case c18 => k_is)
    (case k18 => k_is)
    (case a19 => k_is)
    (case l19 => k_is)
    (case c19 => k_is)
    (case k19 => k_is)
    (case a20 => k_is)
    (case l20 => k_is)
    (case c20 => k_is)
    (case k20 => k_is)
    (case a21 => k_is)
    (case l21 => k_is)
    (case c21 => k_is)
    (case k21 => k_is)
    (case j22 => k_is)
    (case j23 => k_is)
    (case j24 => k_is)
    (case z25 => k_is)
    (case z26 => k_is)
    (case z27 => k_is)
    (case z28 => k_is)
    (case z29 => k_is)
    (case z30 => k_is)
    (case z31 => k_is)
    (case z32 => k_is)
    (case z33 => k_is)
    (case z34 => k_is)
    (case z35 => k_is)
    (case z36 => k_is)
    (case z37 => k_is)
    (case z38 => k_is)
    (case z39 => k_is)
