import PyProof.Rows.All
import Wide.All
import OpenK.AllK
import Wide.FinOn
import HandS.GenList
import HandS.AnyAll
import HandS.EndOwn
import HandS.SortInts
import HandS.Walk
import HandS.ForMost
import HandS.Style
import HandS.Conv
import HandS.Evl
import HandS.Wide
import HandS.Star
import HandS.IsInst
import KE.BitLaws
import HandS.More
import PySem.Challenge.RW_kraftroom_k13_whole_messages_in_words
import HandS.WideBits
import HandS.ExcInit
import HandS.ExcIs
import HandS.FStr
import KE.KExcIs
import KE.KExcPX
import KE.KTypeName
import HandS.TryMany
import HandS.ExcField
import HandS.ExcOwn
import HandS.WordsExc
import HandS.EndTab
set_option Elab.async false
set_option linter.all false
set_option maxRecDepth 100000
set_option maxHeartbeats 4000000
/-! Generator expressions over the layer: any target, tests, element; consumed by sorted, sum, any, all. -/
namespace GX
open PySem PySem.Spec PyProof.Rows L2 GenW

abbrev Pins := List (Addr × Obj)
structure Sleeps (Ss : List Addr) (s s' : Shared) : Prop where
  os : s'.os = s.os
  bare : AllBare s'.gens
  keep : ∀ b o, b ∉ Ss → s.heap.get? b = some o → s'.heap.get? b = some o
structure PinsAt (Ss : List Addr) (pl : Pins) (h : Heap) : Prop where
  ad : pl.map (·.1) = Ss
  at_ : ∀ p ∈ pl, h.get? p.1 = some p.2 ∧ ∀ v, p.2.data ≠ .cell v
structure Cons where
  Ss : List Addr
  Gh : List V → Pins → Prop
  Th : List V → V → Hp → Prop
  Qe : List V → Hp → Prop

abbrev gcx (X : Cx) (sB : Shared) (HB : Hp) (N' : List Str) (cenv : Env) (fp : List Addr) (A : Around) (pn : Pins) : Cx :=
  { X with A := A, N := N', s_0 := sB, H_0 := HB, env := cenv, outer := X.stack, stack := cenv :: X.stack, ex := fp, fn := fun _ => false, calm := true, pn := pn, xe := fun _ _ => False }

/-- the generator expression's own scope, its names N', which of them are captured (cm: their slots outside) -/
structure CapOk (N N' : List Str) (cm : List (Option Nat)) (scope sc : Scope) : Prop where
  kind : scope.kind = .function
  co : scope.isCoroutine = false
  cell : ∀ y ∈ scope.names, y.2 ≠ .cell
  dot : scope.names.lookup (".0" : Str) = some NameKind.local
  free : ∀ y ∈ scope.names, y.2 = .free → sc.names.lookup y.1 = some .cell ∨ sc.names.lookup y.1 = some .free
  len : cm.length = N'.length
  cap : ((cm.zip N').all fun p => match p.1 with | some j => (N[j]? == some p.2) && (scope.names.lookup p.2 == some .free) | none => true) = true
def captS (cm : List (Option Nat)) (σ : L2.St) : L2.St := cm.map fun o => match o with
  | some j => (σ[j]?).join
  | none => none
theorem captS_some {cm : List (Option Nat)} {σ : L2.St} {i : Nat} {v : V} (h : (captS cm σ)[i]? = some (some v)) : ∃ j, cm[i]? = some (some j) ∧ σ[j]? = some (some v) := by
  unfold captS at h
  rw [List.getElem?_map] at h
  cases hc : cm[i]? with
  | none => rw [hc] at h; cases h
  | some o =>
    rw [hc] at h
    cases o with
    | none => cases h
    | some j =>
      refine ⟨j, rfl, ?_⟩
      have h' : (σ[j]?).join = some v := Option.some.inj h
      cases hs : σ[j]? with
      | none => rw [hs] at h'; cases h'
      | some w => rw [hs] at h'; exact congrArg some h'
theorem CapOk.capt {N N' : List Str} {cm : List (Option Nat)} {scope sc : Scope} (ok : CapOk N N' cm scope sc) {i j : Nat} {y : Str} (h1 : cm[i]? = some (some j)) (h2 : N'[i]? = some y) : N[j]? = some y ∧ scope.names.lookup y = some .free := by
  have h := List.all_eq_true.mp ok.cap (some j, y) (List.mem_of_getElem? (i := i) (by rw [List.getElem?_zip_eq_some]; exact ⟨h1, h2⟩))
  simp only [Bool.and_eq_true, beq_iff_eq] at h
  exact h

theorem inv_gens {G : Cx} {pl : Pins} {σ : L2.St} {H : Hp} {s : Shared} (I : Inv G pl σ H s) {g : Nat} {x : GenState} (hx : x.bare = true) : Inv G pl σ H (s.setGen g x) :=
  ⟨I.ok, I.os, allBare_setGen I.bare hx, I.base, I.loc, I.cell, I.free, I.freeC, I.pin, I.hok, I.len⟩

theorem woken {G : Cx} {Ss : List Addr} {pl pl' : Pins} {σ : L2.St} {H : Hp} {s s' : Shared} (hpn : ∀ p ∈ G.pn, p.1 ∉ Ss)
    (hap : ∀ b ∈ Ss, G.s_0.heap.objs.size ≤ b ∧ b ≠ G.env.locals ∧ ∀ x c, G.env.cells.lookup x = some c → c ≠ b) (hp : PinsAt Ss pl s.heap) (I : Inv G pl σ H s) (z : Sleeps Ss s s') (hp' : PinsAt Ss pl' s'.heap) :
    Inv G pl' σ H s' := by
  have fr : ∀ b ∈ Ss, H b = none ∧ b ≠ G.env.locals ∧ b ∉ G.fs := fun b hb => by
    rw [← hp.ad] at hb
    obtain ⟨p, hm, e⟩ := List.mem_map.mp hb
    obtain ⟨_, h2, h3, h4, _⟩ := I.pin p (List.mem_append_right _ hm)
    rw [← e]
    exact ⟨h2, h3, h4⟩
  have I0 : Inv G [] σ H s := I.pins_of fun p hp => absurd hp (by simp)
  have nt : ∀ b u, H b = some u → b ∉ Ss := fun b u q hb => by rw [(fr b hb).1] at q; cases q
  obtain ⟨z1, z2, z3⟩ := z
  obtain ⟨hh, g, d, t, o⟩ := s'
  have ho : o = s.os := z1
  subst ho
  have J : Inv G [] σ H { s with heap := hh, gens := g, drawn := d, toks := t } := by
    refine I0.step (g' := g) (t' := t) (d' := d) (ch := Ss) (fun b hb => ?_)
      (fun b ob _ _ hc q _ => z3 b ob hc q) (fun b ob _ _ hc q _ => ⟨ob.slots, z3 b ob hc q⟩) (fun _ _ _ _ n => n) (fun b ob hc q => ⟨ob, z3 b ob hc q⟩)
      (fun _ _ q => q) (fun _ _ _ q => q) (fun b ps q => ⟨#[], by rw [q]; simp⟩) (fun m hm => ?_) (fun b u q => ?_) z2
    · refine ⟨.inr (hap b hb).1, (hap b hb).2.1, (hap b hb).2.2, fun p hp => ?_⟩
      rcases List.mem_append.mp hp with hp | hp
      · exact fun e => hpn p hp (by rw [e]; exact hb)
      · cases hp
    · obtain ⟨ob, es, ep, ho, r⟩ := hm
      exact ⟨ob, es, ep, z3 _ ob (fun hm => (fr _ hm).2.1 rfl) ho, r⟩
    · refine (I0.hok b u q).stay (fun c v hc y => z3 c v ?_ y) (fun _ y => y) fun _ _ y => y
      rcases hc with y | y
      · rw [y]; exact nt b u q
      · exact nt c _ y
  refine J.pins_of fun p hp => ?_
  have hS : p.1 ∈ Ss := by rw [← hp'.ad]; exact List.mem_map.mpr ⟨p, hp, rfl⟩
  exact ⟨(hp'.at_ p hp).1, (fr _ hS).1, (fr _ hS).2.1, (fr _ hS).2.2, (hp'.at_ p hp).2⟩

def GY (G : Cx) (C : Cons) (σ0 : L2.St) : Protocol := fun n s₀ v s kap =>
  ∃ ys x pl H, n + 1 + ys.length = sizeLine ∧ RelV x v ∧ PinsAt C.Ss pl s.heap ∧ C.Gh ys pl ∧ Inv G pl σ0 H s ∧ C.Th ys x H ∧
    (∀ b ∈ C.Ss, s.heap.get? b = s₀.heap.get? b) ∧ ∀ s' pl', Sleeps C.Ss s s' → PinsAt C.Ss pl' s'.heap → C.Gh (ys ++ [x]) pl' → kap (.send .none) s'
def GP (G : Cx) (C : Cons) (σ0 : L2.St) (s₀ s : Shared) : Prop := ∃ ys pl H, ys.length ≤ sizeLine ∧ PinsAt C.Ss pl s.heap ∧ C.Gh ys pl ∧ Inv G pl σ0 H s ∧ C.Qe ys H ∧ ∀ b ∈ C.Ss, s.heap.get? b = s₀.heap.get? b
def GR (G : Cx) (C : Cons) (σ0 : L2.St) : GenEnd := fun n s₀ r s => r = .ok .next ∧ GP G C σ0 s₀ s
theorem PinsAt.same {Ss : List Addr} {pl : Pins} {h h' : Heap} (a : PinsAt Ss pl h) (b : PinsAt Ss pl h') : ∀ x ∈ Ss, h'.get? x = h.get? x := fun x hx => by
  rw [← a.ad] at hx
  obtain ⟨p, hp, e⟩ := List.mem_map.mp hx
  rw [← e, (a.at_ p hp).1, (b.at_ p hp).1]

theorem over_gl {A : Around} {elt : Expr} {gens : List Comprehension} {scope : Scope} {pos : Pos} {it acc : Value} {env : Env} : A.over (.compLoop (.GeneratorExp elt gens scope pos) 0 it acc env) [] = A.deeper env := by
  first
    | rfl
    | (obtain ⟨hd, d, fr, gs, u⟩ := A; simp [Around.over, Around.deeper, marksOver, frameCount, unitsOf, envsOf, guardsOf, pushEnvs, pushGuards, Code.envs, Code.env?, Code.isFrame, Code.guards, Code.isGuard, Code.weight, Code.frames, Code.isCreation, Code.isCaller, Code.cUnits])

/-- what each turn is to bring -/
def Turns (J : It) (g : TG) (tt : TT) (te : TE) (σ0 : L2.St) (own : List Nat) (Th : List V → V → Hp → Prop) (Qe : List V → Hp → Prop) (W : Nat → Nat → List V → Hp → Prop) : Prop :=
  ∀ i m ys H, W i m ys H → (J.stop i H ∧ Qe ys H) ∨ (J.go i H ∧ ∃ Nx : List V → Hp → Prop, (∀ ys' H', Nx ys' H' → ∃ m', m' < m ∧ W (i + 1) m' ys' H') ∧
    ∀ x H', J.yld i H x H' → g x σ0 H' fun σ2 H2 => wipe σ2 own = σ0 ∧ tt σ2 H2 fun b H3 =>
      if b = true then te σ2 H3 fun y H4 => ys.length < sizeLine ∧ Th ys y H4 ∧ Nx (ys ++ [y]) H4 else Nx ys H3)

section
variable {G : Cx} {A : Around} {C : Cons} {cenv : Env} {tg elt iter : Expr} {ifs : List Expr} {scope : Scope} {pos : Pos} {J : It} {fp : List Addr} {it : Addr} {tn : Nat → Heap → Prop} {g : TG} {tt : TT} {te : TE} {σ0 : L2.St} {own : List Nat}
  {W : Nat → Nat → List V → Hp → Prop}
theorem seg_loop (hA : A.deeper cenv = G.A) (hE : G.env = cenv) (hcalm : G.calm = true) (hxe : G.xe = fun _ _ => False) (hco : cenv.scope.isCoroutine = false)
    (T : Turn G.prog G.w G.K tg J fp it tn) (hg : PG G tg g) (ht : PTs G ifs tt) (he : PE G elt te)
    (hpn : ∀ p ∈ G.pn, p.1 ∉ C.Ss) (hap : ∀ b ∈ C.Ss, G.s_0.heap.objs.size ≤ b ∧ b ≠ G.env.locals ∧ ∀ x c, G.env.cells.lookup x = some c → c ≠ b)
    (hfp : ∀ b ∈ fp, b ≠ G.env.locals ∧ b ∉ G.fs ∧ (b ∈ G.ex ∨ G.s_0.heap.objs.size ≤ b) ∧ (∀ x c, G.env.cells.lookup x = some c → c ≠ b) ∧ (∀ p ∈ G.pn, p.1 ≠ b) ∧ b ∉ C.Ss)
    (tr : Turns J g tt te σ0 own C.Th C.Qe W) :
    ∀ (m i n : Nat) (ys : List V) (s₀ s : Shared) (H : Hp) (pl : Pins), n + ys.length = sizeLine → W i m ys H → PinsAt C.Ss pl s.heap → C.Gh ys pl → Inv G pl σ0 H s → tn i s.heap → (∀ b ∈ fp, H b = none) → (∀ b ∈ C.Ss, s.heap.get? b = s₀.heap.get? b) →
      Seg (model G.prog G.w) A (GR G C σ0) (GY G C σ0) n s₀ (.compLoop (.GeneratorExp elt [⟨tg, iter, ifs, 0⟩] scope pos) 0 (.ref it) .none cenv)
        ((model G.prog G.w).den (.compLoop (.GeneratorExp elt [⟨tg, iter, ifs, 0⟩] scope pos) 0 (.ref it) .none cenv)) [] s := by
  subst hE
  intro m
  induction m using Nat.strongRecOn with
  | ind m ih =>
    intro i n ys s₀ s H pl hn w hp hgh I hst hfr hs0
    have hov : A.over (.compLoop (.GeneratorExp elt [⟨tg, iter, ifs, 0⟩] scope pos) 0 (.ref it) .none G.env) [] = G.A := over_gl.trans hA
    have stat : ∀ {pl' : Pins} {H' : Hp}, (pl'.map (·.1) = C.Ss) → (∀ b ∈ fp, H' b = none) → ∀ b ∈ fp, FpOk G pl' H' b := fun {pl' H'} had hn b hb => by
      obtain ⟨h1, h2, h3, h4, h5, h6⟩ := hfp b hb
      refine ⟨hn b hb, h1, h2, h3, h4, fun p hp => ?_⟩
      rcases List.mem_append.mp hp with hp | hp
      · exact h5 p hp
      · intro e
        exact h6 (by rw [← had, ← e]; exact List.mem_map.mpr ⟨p, hp, rfl⟩)
    show Seg _ A _ _ _ s₀ _ ((compTurn (.GeneratorExp elt [⟨tg, iter, ifs, 0⟩] scope pos) 0 (.ref it) .none G.env).onRaise (leaving G.env)) [] s
    rw [compTurn_gen, Sem.onRaise_eq_wrap]
    refine seg_bind_wrap (wpAny_standAt ?_)
    rcases tr i m ys H w with ⟨stop, qn⟩ | ⟨go, Nx, hN, step⟩
    · refine seg_bind_wrap ?_
      rw [hov]
      refine thn (T.done G rfl rfl rfl hcalm i pl s σ0 H _ I (stat hp.ad hfr) hst stop) fun r s4 ⟨hr, I4⟩ => ?_
      subst hr
      have hp4 : PinsAt C.Ss pl s4.heap := ⟨hp.ad, fun p hm => ⟨(I4.pin p (List.mem_append_right _ hm)).1, (hp.at_ p hm).2⟩⟩
      exact seg_end (.ok .next) ⟨rfl, ys, pl, H, by omega, hp4, hgh, I4, qn, fun b hb => (hp.same hp4 b hb).trans (hs0 b hb)⟩
    · refine seg_bind_wrap ?_
      rw [hov]
      refine thn (T.item G rfl rfl rfl hcalm i pl s σ0 H _ I (stat hp.ad hfr) hst go) fun r s4 ⟨u, hr, h4⟩ => ?_
      subst hr
      refine seg_bind_wrap ?_
      rw [hov]
      refine thn h4 fun _ s5 ⟨x, H5, I5, r5, y5, st5, fr5⟩ => ?_
      have I5' := I5.pinned (stat hp.ad fr5) (T.obj _ _ st5)
      refine seg_bind_wrap ?_
      rw [hov]
      refine wpAny_mono (hg.run _ s5 σ0 H5 x u _ I5' r5 (step x H5 y5)) (fun _ s6 ⟨σ6, H6, I6, hw6, q6⟩ => ?_) fun e s' hx => absurd hx (by rw [hxe]; exact fun z => z)
      refine seg_bind_wrap ?_
      rw [hov]
      refine wpAny_mono (ht.run _ s6 σ6 H6 _ I6 q6) (fun ok s7 ⟨H7, I7, q7⟩ => ?_) fun e s' hx => absurd hx (by rw [hxe]; exact fun z => z)
      have back : ∀ {s8 : Shared} {H8 : Hp}, Inv G (pl ++ pinsAt fp s5.heap) σ6 H8 s8 → Inv G pl σ0 H8 s8 ∧ PinsAt C.Ss pl s8.heap ∧ (∀ b ∈ fp, H8 b = none) ∧ ∀ b ∈ fp, ∀ o, s5.heap.get? b = some o → s8.heap.get? b = some o := fun {s8 H8} I8 => by
        refine ⟨(I8.unpinned).weak (by rw [← hw6, wipe_length]) fun j v hv => ?_, ⟨hp.ad, fun p hm => ?_⟩, fun b hb => ?_, fun b hb o e => ?_⟩
        · rw [← hw6] at hv
          exact (wipe_some hv).1
        · exact ⟨(I8.pin p (List.mem_append_right _ (List.mem_append_left _ hm))).1, (hp.at_ p hm).2⟩
        · obtain ⟨o, e, d⟩ := T.obj _ _ st5 b hb
          exact (I8.pin (b, o) (List.mem_append_right _ (List.mem_append_right _ (mem_pinsAt hb e)))).2.1
        · exact (I8.pin (b, o) (List.mem_append_right _ (List.mem_append_right _ (mem_pinsAt hb e)))).1
      cases ok with
      | false =>
        rw [if_neg Bool.false_ne_true] at q7
        simp only [Bool.false_eq_true, if_false]
        obtain ⟨I8, hp8, hf8, hk8⟩ := back I7
        obtain ⟨m', hm', w'⟩ := hN _ _ q7
        exact seg_again rfl (ih m' hm' (i + 1) n ys s₀ s7 H7 pl hn w' hp8 hgh I8 (T.keep _ _ _ st5 hk8) hf8 fun b hb => (hp.same hp8 b hb).trans (hs0 b hb))
      | true =>
        rw [if_pos rfl] at q7
        simp only [if_true]
        have hy : ∀ v, yieldOut G.env v = yieldValue v := fun v => by simp only [yieldOut, hco, Bool.false_eq_true, if_false]
        simp only [hy]
        rw [Sem.bind_eq_wrap', Sem.bind_eq_wrap', Sem.wrap_wrap, Sem.wrap_wrap]
        refine seg_wrap ?_
        rw [hov]
        refine wpAny_mono (he.run _ s7 σ6 H7 _ I7 q7) (fun v s8 ⟨y, H8, I8', r8, hlt, hth, hnx⟩ => ?_) fun e s' hx => absurd hx (by rw [hxe]; exact fun z => z)
        obtain ⟨n, rfl⟩ : ∃ k, n = k + 1 := ⟨n - 1, by omega⟩
        obtain ⟨I8, hp8, hf8, hk8⟩ := back I8'
        obtain ⟨m', hm', w'⟩ := hN _ _ hnx
        refine seg_at (seg_yield rfl rfl rfl ⟨ys, y, pl, H8, hn, r8, hp8, hgh, I8, hth, fun b hb => (hp.same hp8 b hb).trans (hs0 b hb), fun s'' pl' hsl hpl' hgh' => ?_⟩)
        refine seg_again rfl (ih m' hm' (i + 1) n (ys ++ [y]) s'' s'' H8 pl' (by rw [List.length_append, List.length_singleton]; omega) w' hpl' hgh' (woken hpn hap hp8 I8 hsl hpl')
          (T.keep _ _ _ st5 fun b hb o e => hsl.keep b o (hfp b hb).2.2.2.2.2 (hk8 b hb o e)) hf8 fun _ _ => rfl)

theorem seg_start (hA : A.deeper cenv = G.A) (hE : G.env = cenv) (hcalm : G.calm = true) (hxe : G.xe = fun _ _ => False) (hco : cenv.scope.isCoroutine = false)
    (T : Turn G.prog G.w G.K tg J fp it tn) (hg : PG G tg g) (ht : PTs G ifs tt) (he : PE G elt te)
    (hpn : ∀ p ∈ G.pn, p.1 ∉ C.Ss) (hap : ∀ b ∈ C.Ss, G.s_0.heap.objs.size ≤ b ∧ b ≠ G.env.locals ∧ ∀ x c, G.env.cells.lookup x = some c → c ≠ b)
    (hfp : ∀ b ∈ fp, b ≠ G.env.locals ∧ b ∉ G.fs ∧ (b ∈ G.ex ∨ G.s_0.heap.objs.size ≤ b) ∧ (∀ x c, G.env.cells.lookup x = some c → c ≠ b) ∧ (∀ p ∈ G.pn, p.1 ≠ b) ∧ b ∉ C.Ss)
    (tr : Turns J g tt te σ0 own C.Th C.Qe W) {m : Nat} {s₀ s : Shared} {H : Hp} {pl : Pins} (w : W 0 m [] H) (hp : PinsAt C.Ss pl s.heap) (hgh : C.Gh [] pl) (I : Inv G pl σ0 H s) (hst : tn 0 s.heap) (hfr : ∀ b ∈ fp, H b = none) (hs0 : ∀ b ∈ C.Ss, s.heap.get? b = s₀.heap.get? b) :
    Seg (model G.prog G.w) A (GR G C σ0) (GY G C σ0) sizeLine s₀ (.compStart (.GeneratorExp elt [⟨tg, iter, ifs, 0⟩] scope pos) 0 (.ref it) .none cenv)
      ((model G.prog G.w).den (.compStart (.GeneratorExp elt [⟨tg, iter, ifs, 0⟩] scope pos) 0 (.ref it) .none cenv)) [] s := by
  have loop := seg_loop (iter := iter) (scope := scope) (pos := pos) hA hE hcalm hxe hco T hg ht he hpn hap hfp tr m 0 sizeLine [] s₀ s H pl rfl w hp hgh I hst hfr hs0
  show Seg _ A _ _ _ s₀ _ ((compStart (.GeneratorExp elt [⟨tg, iter, ifs, 0⟩] scope pos) 0 (.ref it) .none cenv).onRaise (leaving cenv)) [] s
  unfold compStart
  rw [Sem.onRaise_eq_wrap]
  show Seg _ A _ _ _ s₀ _ ((ask >>= _).wrap _ _ _ _) [] s
  refine seg_bind_wrap (wpAny_askSetting ?_)
  split
  · exact seg_again rfl loop
  · first
      | exact seg_bind_wrap (wpAny_rule (seg_bind_wrap (wpAny_standAt (seg_bind_wrap (T.self _ 0 s _ _ hst (seg_again rfl loop))))))
      | (refine seg_bind_wrap (wpAny_rule ?_); show Seg _ A _ _ _ s₀ _ ((standAt iter.pos >>= _).wrap _ _ _ _) [] s; exact seg_bind_wrap (wpAny_standAt (seg_bind_wrap (T.self _ 0 s _ _ hst (seg_again rfl loop)))))
end
end GX
set_option Elab.async false
set_option linter.all false
set_option maxRecDepth 100000
set_option maxHeartbeats 4000000
namespace GX
open PySem PySem.Spec PyProof.Rows L2 GenW

section
variable {X : Cx} {pins : Pins} {σ : L2.St} {H : Hp} {sB : Shared} {N' : List Str} {cm : List (Option Nat)} {scope : Scope}
theorem gen_start (I : Inv X pins σ H sB) (ok : CapOk X.N N' cm scope X.env.scope) {code : Value} {fp : List Addr} (hfp : ∀ b ∈ fp, FpOk X pins H b ∧ b < sB.heap.objs.size)
    {A : Around} (hA : A.handled = none) (hfr : A.frames = some (genEnv scope (cloFrom X.env.cells scope.names []) sB.heap.objs.size code builtinsNs X.env :: X.stack))
    {s2 : Shared} {m0 : Str → Option Value} (hn : s2.heap.Ns sB.heap.objs.size m0) (hk : ∀ b o, sB.heap.get? b = some o → s2.heap.get? b = some o) (hos : s2.os = sB.os) (hb : AllBare s2.gens) {pn pl : Pins}
    (hp : ∀ p ∈ pn ++ pl, s2.heap.get? p.1 = some p.2 ∧ sB.heap.objs.size < p.1 ∧ ∀ v, p.2.data ≠ .cell v) :
    Inv (gcx X sB H N' (genEnv scope (cloFrom X.env.cells scope.names []) sB.heap.objs.size code builtinsNs X.env) fp A pn) pl (captS cm σ) H s2 := by
  have hfree : ∀ y ∈ scope.names, y.2 = .free → ∃ c, X.env.cells.lookup y.1 = some c := fun y hy e => by
    rcases ok.free y hy e with k | k
    · exact I.ok.has _ (.inl k)
    · exact I.ok.has _ (.inr k)
  have cm1 : ∀ {y c}, (cloFrom X.env.cells scope.names []).lookup y = some c → X.env.cells.lookup y = some c ∧ c < sB.heap.objs.size := fun {y c} hm => by
    rcases cloFrom_mem (PySem.mem_of_lookup hm) with hm | ⟨h1, rfl⟩
    · cases hm
    · obtain ⟨c, hc⟩ := hfree _ h1 rfl
      rw [hc]
      obtain ⟨w, z⟩ := I.cell _ _ hc
      exact ⟨rfl, z.lt⟩
  have look : ∀ {y}, scope.names.lookup y = some .free → ∃ c, (cloFrom X.env.cells scope.names []).lookup y = some c ∧ X.env.cells.lookup y = some c := fun {y} hl => by
    have hy : (y, NameKind.free) ∈ scope.names := PySem.mem_of_lookup hl
    obtain ⟨c', e'⟩ := mem_lookup (cloFrom_has (cells := X.env.cells) (acc := []) hy)
    exact ⟨c', e', (cm1 e').1⟩
  have nstk : ∀ b, sB.heap.objs.size ≤ b → b ∉ frs X.stack := fun b hb z => by
    rcases List.mem_cons.mp (I.stkSub b z) with z | z
    · exact absurd (Nat.lt_of_lt_of_le I.lt (by rw [← z]; exact hb)) (Nat.lt_irrefl _)
    · exact I.nofs hb z
  have okB : (gcx X sB H N' (genEnv scope (cloFrom X.env.cells scope.names []) sB.heap.objs.size code builtinsNs X.env) fp A pn).Ok := by
    refine ⟨I.ok.mod, ok.kind, I.ok.glob, rfl, Nat.le_refl _, fun y z c e1 e2 => I.ok.inj y z c (cm1 e1).1 (cm1 e2).1, fun y hy => ?_, fun y c z e => ?_, fun _ => hA, hfr, .inr ⟨rfl, rfl⟩, fun b hb => ⟨?_, fun y c e z => ?_⟩, I.bs, Nat.le_trans I.ok.bsz I.sz, fun b o e hb => ?_, fun b hb z => ?_, I.stack, I.stkFree⟩
    · rcases hy with hy | hy
      · exact absurd rfl (ok.cell _ (PySem.mem_of_lookup hy))
      · obtain ⟨c, h1, _⟩ := look hy
        exact ⟨c, h1⟩
    · exact absurd (show false = true from z) Bool.false_ne_true
    · exact Nat.ne_of_lt (hfp b hb).2
    · exact (hfp b hb).1.2.2.2.2.1 y c (cm1 e).1 z
    · rcases (hfp b hb).1.2.2.2.1 with z | z
      · exact I.ok.noex b o e z
      · exact absurd (Nat.lt_of_lt_of_le (Heap.lt_size e) (Nat.le_trans I.ok.bsz z)) (Nat.lt_irrefl _)
    · rcases List.mem_cons.mp (I.stkSub b z) with z | z
      · exact (hfp b hb).1.2.1 z
      · exact (hfp b hb).1.2.2.1 z
  refine ⟨okB, hos, hb, Un.kept hk, ⟨m0, hn, fun i y av e1 e2 e3 => ?_⟩, fun y c e => ?_, I.hok.fresh (Nat.le_refl _), fun y c e => I.freeC y c (cm1 e).1, fun p hm => ?_, I.hok.kept hk, by
    show (captS cm σ).length = N'.length
    unfold captS
    rw [List.length_map, ok.len]⟩
  · obtain ⟨j, hj, hs⟩ := captS_some e2
    obtain ⟨hy, hf⟩ := ok.capt hj e1
    obtain ⟨m, hn2, hl⟩ := I.loc
    have hvis : Vis X.env.scope y := (ok.free _ (PySem.mem_of_lookup hf) rfl).elim (fun k => .inr (.inl k)) (fun k => .inr (.inr k))
    obtain ⟨w, r, q⟩ := hl j y av hy hs hvis
    refine ⟨w, r, .inr ⟨.inr hf, ?_⟩⟩
    obtain ⟨c, h1, h2⟩ := look hf
    rcases q with ⟨k, _⟩ | ⟨_, c', e', z⟩
    · have k : X.env.scope.names.lookup y = some .local := k
      rcases ok.free _ (PySem.mem_of_lookup hf) rfl with k' | k' <;> rw [show X.env.scope.names.lookup y = _ from k'] at k <;> cases k
    · rw [h2] at e'; cases e'
      exact ⟨c, h1, z.keeps hk⟩
  · obtain ⟨w, z⟩ := I.cell y c (cm1 e).1
    exact ⟨w, z.keeps hk⟩
  · obtain ⟨h1, h2, h3⟩ := hp p hm
    exact ⟨h1, I.hok.fresh (Nat.le_of_lt h2), Nat.ne_of_gt h2, nstk _ (Nat.le_of_lt h2), h3⟩
end

/-- a code object's table, whatever it holds -/
def TabX (P : Addr) : HO := .ext fun h => ∃ ps : Array Value, h.get? P = some { cls := .none, data := .fields ps } ∧ TriplesOk ps.toList
theorem tabx_ok {prog : Program} {w : World} {H : Hp} {h : Heap} {P : Addr} {ps : Array Value} (e : h.get? P = some { cls := .none, data := .fields ps }) (t : TriplesOk ps.toList) : ObjOk prog w H h P (TabX P) :=
  ⟨⟨ps, e, t⟩, ⟨_, e⟩, fun h1 h2 ⟨qs, e1, t1⟩ k => ⟨qs, k _ e1, t1⟩⟩
theorem upd_id {H : Hp} {a : Addr} {o : HO} (h : H a = some o) : upd H a o = H := by
  funext b
  by_cases e : b = a
  · rw [e, upd_same, h]
  · rw [upd_ne e]
/-- a generator that has not begun -/
def RdG (X : Cx) (pins : Pins) (σ : L2.St) (k : Nat) (Th : List V → V → Hp → Prop) (Qe : List V → Hp → Prop) (u : Value) (s' : Shared) : Prop :=
  ∃ (a : Addr) (g : Nat) (c : Code) (go : Obj) (sB : Shared) (HB : Hp) (N' : List Str) (cenv : Env) (fp : List Addr) (σ0 : L2.St),
    u = .ref a ∧ Inv X pins σ HB sB ∧ ExOk X pins fp ∧ sB.heap.objs.size < a ∧ a < s'.heap.objs.size ∧ (∀ h : Heap, h.get? a = some go → h.IsGen a g) ∧ s'.heap.get? a = some go ∧ s'.gens[g]? = some (.fresh c) ∧ s'.os = sB.os ∧ AllBare s'.gens ∧ (∀ b o, sB.heap.get? b = some o → s'.heap.get? b = some o) ∧
    ∀ (A : Around) (s2 : Shared) (Ss : List Addr) (Gh : List V → Pins → Prop) (pl : Pins), Room (k + 1) A → A.frames = some X.stack → (∀ b ∈ Ss, s'.heap.objs.size ≤ b) → (∀ b o, s'.heap.get? b = some o → s2.heap.get? b = some o) → s2.os = sB.os → AllBare s2.gens → PinsAt Ss pl s2.heap → Gh [] pl →
      Seg (model X.prog X.w) A (GR (gcx X sB HB N' cenv fp (A.deeper cenv) [(a, go)]) ⟨Ss, Gh, Th, Qe⟩ σ0) (GY (gcx X sB HB N' cenv fp (A.deeper cenv) [(a, go)]) ⟨Ss, Gh, Th, Qe⟩ σ0) sizeLine s2 c ((model X.prog X.w).den c) [] s2
abbrev TGx := L2.St → Hp → (List V → V → Hp → Prop) → (List V → Hp → Prop) → Prop
structure PGx (X : Cx) (k : Nat) (e : Expr) (t : TGx) : Prop where
  run : ∀ (pins : Pins) (s : Shared) (σ : L2.St) (H : Hp) (Th : List V → V → Hp → Prop) (Qe : List V → Hp → Prop), Inv X pins σ H s → t σ H Th Qe → wpAny (model X.prog X.w) X.A (eval e X.env) (RdG X pins σ k Th Qe) X.xe s
/-- the reading of a generator expression -/
def tGx (P : Addr) (wi : TI) (g : TG) (tt : TT) (te : TE) (cm : List (Option Nat)) (own : List Nat) : TGx := fun σ H Th Qe => wi σ H fun J H1 => H1 P = some (TabX P) ∧
  ∃ W : Nat → Nat → List V → Hp → Prop, (∃ m, W 0 m [] H1) ∧ Turns J g tt te (captS cm σ) own Th Qe W

theorem pgx_gen {X : Cx} {c P : Addr} {elt iter tg : Expr} {ifs : List Expr} {scope : Scope} {gpos : Pos} {N' : List Str} {cm : List (Option Nat)} {own : List Nat} {wi : TI} {g : TG} {tt : TT} {te : TE} {k k0 : Nat}
    (hr : Room k0 X.A) (TB : GxR.TabB X.base X.mg c P) (hcode : X.env.code = .ref c) (ok : CapOk X.N N' cm scope X.env.scope) (hi : PI X tg iter wi)
    (hg : ∀ (sB : Shared) (HB : Hp) (cl : List (Str × Addr)) (L : Addr) (code : Value) (fp : List Addr) (A : Around) (pn : Pins), Room k A → PG (gcx X sB HB N' (genEnv scope cl L code builtinsNs X.env) fp A pn) tg g)
    (ht : ∀ (sB : Shared) (HB : Hp) (cl : List (Str × Addr)) (L : Addr) (code : Value) (fp : List Addr) (A : Around) (pn : Pins), Room k A → PTs (gcx X sB HB N' (genEnv scope cl L code builtinsNs X.env) fp A pn) ifs tt)
    (he : ∀ (sB : Shared) (HB : Hp) (cl : List (Str × Addr)) (L : Addr) (code : Value) (fp : List Addr) (A : Around) (pn : Pins), Room k A → PE (gcx X sB HB N' (genEnv scope cl L code builtinsNs X.env) fp A pn) elt te)
    (hs : ∀ v, genFold iter X.env v = pure v := by intro _; rfl) : PGx X k (.GeneratorExp elt [⟨tg, iter, ifs, 0⟩] scope gpos) (tGx P wi g tt te cm own) := by
  refine ⟨fun pins s σ H Th Qe I h => ?_⟩
  have hfree : ∀ y ∈ scope.names, y.2 = .free → ∃ c, X.env.cells.lookup y.1 = some c := fun y hy e => by
    rcases ok.free y hy e with k | k
    · exact I.ok.has _ (.inl k)
    · exact I.ok.has _ (.inr k)
  refine wpAny_GeneratorExp_make ok.co (closure_ok hfree) ok.cell ok.dot ok.kind (by have := hr.dp; omega) ?_ hs
  refine thn (hi.run pins s σ H _ I h) fun xv s1 h1 => thn h1 fun itv s2 h2 => ?_
  obtain ⟨it, fp, tn, J, H2, rfl, I2, T, st2, f2, hP, W, ⟨m0, w0⟩, tr⟩ := h2
  obtain ⟨⟨ps, hPs, ht3⟩, _, _⟩ := I2.hok P _ hP
  have cd : PySem.W.CodeHd s2.heap c P := TB.code.keeps fun b u e => I2.bk b u e
  have fpP : ∀ b ∈ fp, b ≠ P := fun b hb z => by
    have q := (f2 b hb).1
    rw [z, hP] at q; cases q
  have fplt : ∀ b ∈ fp, b < s2.heap.objs.size := fun b hb => let ⟨o, e, _⟩ := T.obj _ _ st2 b hb; Heap.lt_size e
  have cont : ∀ (code : Value) (h3 : Heap) (tk : Nat) (ps' : Array Value), Heap.ExtBut P s2.heap h3 → s2.heap.objs.size ≤ h3.objs.size → h3.get? P = some { cls := .none, data := .fields ps' } → (∃ more, ps' = ps ++ more) → TriplesOk ps'.toList →
      wpAny (model X.prog X.w) X.A (builtinsFor X.env.globals X.env.builtins) (fun bi s₄ =>
        ∀ h', h'.Ns s₄.heap.objs.size (fun y => if y = ".0" then some (.ref it) else none) → Heap.SameBut s₄.heap.objs.size (s₄.heap.push { cls := .type "frame", data := .dict #[] }) h' →
          RdG X pins σ k Th Qe (.ref h'.objs.size) { s₄ with
            gens := s₄.gens.push (.fresh (.compStart (.GeneratorExp elt [⟨tg, iter, ifs, 0⟩] scope gpos) 0 (.ref it) .none (genEnv scope (cloFrom X.env.cells scope.names []) s₄.heap.objs.size code bi X.env))),
            toks := s₄.toks + 1 + 1 + 1,
            heap := h'.push { cls := .type "generator", data := .fields #[.int s₄.gens.size 0, .str "<genexpr>" (s₄.toks + 1), .str (X.env.qual ++ "<genexpr>") (s₄.toks + 1 + 1)] } }) X.xe { s2 with heap := h3, toks := tk } := by
    intro code h3 tk ps' hx hsz hP3 hmore ht4
    obtain ⟨bm, ob, e1, e2, e3, e4, e5, e6, e7, e8⟩ := TB.bm
    refine wpAny_builtinsFor (m := X.mg) (by rw [I2.ok.glob]; exact (I2.mod.glob.keeps I2.bk).extBut hx TB.gP) e1 e2 (hx _ _ e4 (I2.bk _ _ e5)) e6 e7 e8 ?_
    intro h' hn' hs'
    obtain ⟨more, em⟩ := hmore
    subst em
    have J3 : Inv X pins σ H2 { s2 with heap := h3, toks := tk } := by
      have q := I2.write (x := P) (e := P) (o := TabX P) (h' := h3) (t' := tk) (by rw [hP]; trivial) (.inl rfl) (fun b u hb hu => hx b u hb hu) ⟨_, hP3⟩ (tabx_ok hP3 ht4)
      rw [upd_id hP] at q
      exact q
    generalize hgo : ({ cls := .type "generator", data := .fields #[.int s2.gens.size 0, .str "<genexpr>" (tk + 1), .str (X.env.qual ++ "<genexpr>") (tk + 1 + 1)] } : Obj) = go
    have hsz' : h'.objs.size = h3.objs.size + 1 := by
      have q := hs'.1
      rw [q, Heap.size_push]
    have keep' : ∀ b o, h3.get? b = some o → h'.get? b = some o := fun b o e => hs'.extBut b o (Nat.ne_of_lt (Heap.lt_size e)) (Heap.get?_push_of_some _ e)
    have goat : (h'.push go).get? h'.objs.size = some go := by
      subst hgo
      exact Heap.get?_push_size _ rfl
    have fp3 := f2
    refine ⟨h'.objs.size, s2.gens.size, _, go, { s2 with heap := h3, toks := tk }, H2, N', genEnv scope (cloFrom X.env.cells scope.names []) h3.objs.size code builtinsNs X.env, fp, captS cm σ, rfl, J3, fun b hb => ⟨(f2 b hb).2.2.2.1, (f2 b hb).2.1, (f2 b hb).2.2.2.2.1, (f2 b hb).2.2.2.2.2⟩, ?_, ?_, fun h e => ?_, goat, Array.getElem?_push_size .., rfl, ?_, fun b o e => ?_, fun A s2' Ss Gh pl hrA hfr hSs hk2 hos2 hb2 hpl hgh => ?_⟩
    · show h3.objs.size < h'.objs.size
      omega
    · show h'.objs.size < (h'.push _).objs.size
      rw [Heap.size_push]; exact Nat.lt_succ_self _
    · subst hgo
      exact ⟨_, _, _, e, rfl, rfl, rfl⟩
    · exact AllBare.push I2.bare rfl
    · exact Heap.get?_push_of_some _ (keep' b o e)
    · have keep2 : ∀ b o, h3.get? b = some o → s2'.heap.get? b = some o := fun b o e => hk2 b o (Heap.get?_push_of_some _ (keep' b o e))
      have hpins : ∀ p ∈ [(h'.objs.size, go)] ++ pl, s2'.heap.get? p.1 = some p.2 ∧ h3.objs.size < p.1 ∧ ∀ v, p.2.data ≠ .cell v := fun p hp => by
        rcases List.mem_append.mp hp with hp | hp
        · rw [List.mem_singleton.mp hp]
          refine ⟨hk2 h'.objs.size go ?_, by show h3.objs.size < h'.objs.size; omega, fun v q => by subst hgo; cases q⟩
          exact goat
        · have hS : p.1 ∈ Ss := by rw [← hpl.ad]; exact List.mem_map.mpr ⟨p, hp, rfl⟩
          have q := hSs _ hS
          have q2 : (h'.push go).objs.size ≤ p.1 := by subst hgo; exact q
          rw [Heap.size_push] at q2
          refine ⟨(hpl.at_ p hp).1, ?_, (hpl.at_ p hp).2⟩
          have q3 : h'.objs.size < p.1 := Nat.lt_of_succ_le q2
          rw [hsz'] at q3
          exact Nat.lt_of_succ_lt q3
      have IG := gen_start (code := code) (cm := cm) (N' := N') (fp := fp) J3 ok (fun b hb => ⟨fp3 b hb, Nat.lt_of_lt_of_le (fplt b hb) hsz⟩) (A := A.deeper (genEnv scope (cloFrom X.env.cells scope.names []) h3.objs.size code builtinsNs X.env)) hrA.hd
        (by show A.frames.map _ = _; rw [hfr]; rfl) (s2 := s2') (m0 := fun y => if y = ".0" then some (.ref it) else none) ((hn'.push _).keeps hk2) keep2 hos2 hb2 hpins
      have hSlt : ∀ b ∈ Ss, h'.objs.size < b := fun b hb => by
        have q := hSs b hb
        have q2 : (h'.push go).objs.size ≤ b := by subst hgo; exact q
        rw [Heap.size_push] at q2
        exact Nat.lt_of_succ_le q2
      have hrD := hrA.deeper (genEnv scope (cloFrom X.env.cells scope.names []) h3.objs.size code builtinsNs X.env)
      have cmL : ∀ {y c}, (cloFrom X.env.cells scope.names []).lookup y = some c → X.env.cells.lookup y = some c := fun {y c} hm => by
        rcases cloFrom_mem (PySem.mem_of_lookup hm) with hm | ⟨h1, rfl⟩
        · cases hm
        · obtain ⟨c, hc⟩ := hfree _ h1 rfl
          rw [hc] <;> rfl
      refine seg_start (G := gcx X { s2 with heap := h3, toks := tk } H2 N' (genEnv scope (cloFrom X.env.cells scope.names []) h3.objs.size code builtinsNs X.env) fp (A.deeper (genEnv scope (cloFrom X.env.cells scope.names []) h3.objs.size code builtinsNs X.env)) [(h'.objs.size, go)]) (C := ⟨Ss, Gh, Th, Qe⟩) (own := own) (W := W) rfl rfl rfl rfl ok.co T (hg _ _ _ _ _ _ _ _ hrD) (ht _ _ _ _ _ _ _ _ hrD) (he _ _ _ _ _ _ _ _ hrD) (fun p hp z => ?_) (fun b hb => ⟨?_, ?_, fun x c e z => ?_⟩) (fun b hb => ⟨?_, ?_, .inl hb, fun x c e => ?_, fun p hp => ?_, fun z => ?_⟩) tr w0 hpl hgh IG (T.keep _ _ _ st2 fun b hb o e => ?_) (fun b hb => (fp3 b hb).1) (fun _ _ => rfl)
      · rw [List.mem_singleton.mp hp] at z
        exact Nat.lt_irrefl _ (hSlt _ z)
      · exact Nat.le_of_lt (Nat.lt_of_le_of_lt (by omega : h3.objs.size ≤ h'.objs.size) (hSlt b hb))
      · exact Nat.ne_of_gt (Nat.lt_of_le_of_lt (by omega : h3.objs.size ≤ h'.objs.size) (hSlt b hb))
      · obtain ⟨w, q⟩ := I2.cell x c (cmL e)
        have q1 := q.lt
        rw [z] at q1
        exact Nat.lt_irrefl _ (Nat.lt_trans (Nat.lt_of_lt_of_le q1 hsz) (Nat.lt_of_le_of_lt (by omega : h3.objs.size ≤ h'.objs.size) (hSlt b hb)))
      · exact Nat.ne_of_lt (Nat.lt_of_lt_of_le (fplt b hb) hsz)
      · intro z
        rcases List.mem_cons.mp (J3.stkSub b z) with z | z
        · exact (fp3 b hb).2.1 z
        · exact (fp3 b hb).2.2.1 z
      · exact (f2 b hb).2.2.2.2.1 x c (cmL e)
      · rw [List.mem_singleton.mp hp]
        exact Nat.ne_of_gt (Nat.lt_of_lt_of_le (fplt b hb) (by omega : s2.heap.objs.size ≤ h'.objs.size))
      · exact Nat.lt_irrefl _ (Nat.lt_trans (Nat.lt_of_lt_of_le (fplt b hb) (by omega : s2.heap.objs.size ≤ h'.objs.size)) (hSlt b z))
      · exact keep2 b o (hx b o (fpP b hb) e)
  refine ⟨I2.nolimit, ?_⟩
  cases hf : codeAmong gpos ps.toList with
  | none =>
    refine wpAny_genexprCodeX hcode (cd.code hPs ht3) (cd.tab hPs) hf fun c' h' tk hx hge hlt hco' _ htab' _ => ?_
    obtain ⟨o1, vs, f1, tf, fl, tg, inF, tx, tt, op, _, _, _, _, _, _, _, _, _, htr, _⟩ := hco'
    exact cont _ h' tk _ hx (Nat.le_trans hge (Nat.le_of_lt hlt)) htab'.2 ⟨_, rfl⟩ htr
  | some cv =>
    refine wpAny_genexprCode_hit hcode (cd.code hPs ht3) hf ?_
    exact cont cv s2.heap s2.toks ps (Heap.ExtBut.refl _ _) (Nat.le_refl _) hPs ⟨#[], by simp⟩ ht3
end GX
set_option Elab.async false
set_option linter.all false
set_option maxRecDepth 100000
set_option maxHeartbeats 4000000
namespace GX
open PySem PySem.Spec PyProof.Rows L2 GenW

/-- the generator g sleeps (or has not begun), n items at most are to come -/
def Susp (G : Cx) (C : Cons) (σ0 : L2.St) (A : Around) (g n : Nat) (s : Shared) : Prop :=
  ∃ gs, s.gens[g]? = some gs ∧ gs.Goes (model G.prog G.w) A.in1 (GR G C σ0) (GY G C σ0) n (.send .none) (s.setGen g .running)

section
variable {G : Cx} {C : Cons} {σ0 : L2.St} {A : Around} {a : Addr} {g n : Nat} {go : Obj} {s : Shared} {E : Value → Shared → Prop} {Q : Option Value → Shared → Prop}
theorem gx_next (hh : A.handled = none) (hd : A.depth < recursionLimit) (hl : s.heap.NoLimit) (hg : s.heap.IsGen a g) (hS : Susp G C σ0 A g n s)
    (hY : ∀ ys x v pl H s1, n - 1 + 1 + ys.length = sizeLine → RelV x v → PinsAt C.Ss pl s1.heap → C.Gh ys pl → Inv G pl σ0 H s1 → C.Th ys x H → (∀ b ∈ C.Ss, s1.heap.get? b = s.heap.get? b) →
      (∀ s' pl', Sleeps C.Ss s1 s' → s'.gens = s1.gens → PinsAt C.Ss pl' s'.heap → C.Gh (ys ++ [x]) pl' → ∃ m, n = m + 1 ∧ Susp G C σ0 A g m s') → Q (some v) s1)
    (hP : ∀ s1, GP G C σ0 s s1 → Q none s1) : wpAny (model G.prog G.w) A (pyNext (.ref a)) Q E s := by
  obtain ⟨gs, hgs, hgo⟩ := hS
  have hgl : g < s.gens.size := (Array.getElem?_eq_some_iff.mp hgs).1
  refine wpAny_gsz (n := g + 1) hgl ?_
  refine wpAny_pyNext_genexpQ (P := fun n s₀ s₁ => GP G C σ0 s₀ s₁) hh hl hd hg hgs hgo (fun v s₁ gs' hbare hv hsz => ?_) (fun s₁ hp h' hk hsz => ?_)
  · obtain ⟨ys, x, pl, H, h1, h2, h3, h4, h5, h6, h8, h7⟩ := hv
    have hsz1 : g < s₁.gens.size := by
      have q : (s₁.setGen g gs').gens.size = s₁.gens.size := setGen_size _ _ _
      have hsz' : g + 1 ≤ (s₁.setGen g gs').gens.size := hsz
      omega
    refine hY ys x v pl H _ h1 h2 h3 h4 (inv_gens h5 hbare) h6 h8 fun s' pl' hsl hge hpl' hgh' => ?_
    have hsl2 : Sleeps C.Ss s₁ (s'.setGen g .running) := ⟨hsl.os, allBare_setGen hsl.bare rfl, hsl.keep⟩
    have q := h7 (s'.setGen g .running) pl' hsl2 hpl' hgh'
    cases n with
    | zero => exact False.elim q
    | succ m =>
      refine ⟨m, rfl, gs', ?_, q⟩
      rw [hge]
      exact setGen_at hsz1
  · obtain ⟨ys, pl, H, h1, h2, h3, h4, h5, h6⟩ := hp
    have hp2 : PinsAt C.Ss pl h' := ⟨h2.ad, fun p hp => ⟨hk _ _ (h2.at_ p hp).1, (h2.at_ p hp).2⟩⟩
    have I1 := inv_gens (g := g) (x := .finished) h4 rfl
    exact hP _ ⟨ys, pl, H, h1, hp2, h3, I1.kept (t' := s₁.toks) hk, h5, fun b hb => (h2.same hp2 b hb).trans (h6 b hb)⟩
end

/-- a generator just made, now drained: at its first resumption -/
theorem susp_of {X : Cx} {A : Around} {C : Cons} {sB : Shared} {HB : Hp} {N' : List Str} {cenv : Env} {fp : List Addr} {σ0 : L2.St} {a g : Nat} {go : Obj} {c : Code} {s2 : Shared} (hgs : s2.gens[g]? = some (.fresh c))
    (h : Seg (model X.prog X.w) A.in1 (GR (gcx X sB HB N' cenv fp (A.in1.deeper cenv) [(a, go)]) C σ0) (GY (gcx X sB HB N' cenv fp (A.in1.deeper cenv) [(a, go)]) C σ0) sizeLine (s2.setGen g .running) c ((model X.prog X.w).den c) [] (s2.setGen g .running)) :
    Susp (gcx X sB HB N' cenv fp (A.in1.deeper cenv) [(a, go)]) C σ0 A g sizeLine s2 := ⟨_, hgs, rfl, h⟩

section
variable {X : Cx} {pins : Pins} {σ : L2.St} {HB H : Hp} {sB s' : Shared} {N' : List Str} {cenv : Env} {fp : List Addr} {σ0 : L2.St} {A : Around} {pn pl : Pins}
/-- back outside -/
theorem inv_back (I : Inv X pins σ HB sB) (hex : ExOk X pins fp) (J : Inv (gcx X sB HB N' cenv fp A pn) pl σ0 H s') : Inv X pins σ H s' :=
  I.call' (ch := fp) J.os J.base J.hok J.bare hex
end

/-! ### list.extend's loop -/
def GhL (S : Addr) : List V → Pins → Prop := fun ys pl => ∃ (acc : Array Value) (c : Nat), pl = [(S, lstObj acc c)] ∧ Vals ys acc.toList
theorem ghl_at {S : Addr} {ys : List V} {pl : Pins} {h : Heap} (g : GhL S ys pl) (p : PinsAt [S] pl h) : ∃ (acc : Array Value) (c : Nat), h.get? S = some (lstObj acc c) ∧ Vals ys acc.toList := by
  obtain ⟨acc, c, rfl, r⟩ := g
  exact ⟨acc, c, (p.at_ _ (List.mem_singleton.mpr rfl)).1, r⟩
theorem drainL {G : Cx} {Th : List V → V → Hp → Prop} {Qe : List V → Hp → Prop} {σ0 : L2.St} {A : Around} {a S : Addr} {g : Nat} {go : Obj} {res : Value} {R : Result → Shared → Prop} (hh : A.handled = none) (hd : A.depth < recursionLimit) (hpa : (a, go) ∈ G.pn) (hgo : ∀ h : Heap, h.get? a = some go → h.IsGen a g)
    (hSa : S ≠ a) (hSc : S ≠ cStatics)
    (hend : ∀ s' ys acc c pl H, ys.length ≤ sizeLine → s'.heap.get? S = some (lstObj acc c) → Vals ys acc.toList → Inv G pl σ0 H s' → H S = none → Qe ys H → R (.ok (.ret res)) s') :
    ∀ (n : Nat) (s : Shared), s.heap.NoLimit → s.heap.IsGen a g → Susp G ⟨[S], GhL S, Th, Qe⟩ σ0 A.in1 g n s → codeAny (model G.prog G.w) A (.builtin "list.extend.loop" ⟨[.ref S, .ref a, res], []⟩) R s := by
  intro n
  induction n using Nat.strongRecOn with
  | ind n ih =>
    intro s hl hg hS
    refine codeAny_builtin F.entry_extend_loop ?_
    rw [Around.under_plainId F.plain_extend_loop _]
    show wpAny _ A.in1 (pyNext (.ref a) >>= _) _ _ s
    refine wpAny_bind (gx_next (A := A.in1) hh hd hl hg hS (fun ys x v pl H s1 h1 h2 h3 h4 h5 h6 _ h7 => ?_) fun s1 hp => ?_)
    · obtain ⟨acc, c, hS1, hv⟩ := ghl_at h4 h3
      have hlen : acc.toList.length = ys.length := hv.length.symm
      have hacc : acc.size < sizeLine := by
        have e : acc.toList.length = acc.size := by simp
        omega
      show wpAny _ A.in1 (updateSeq S (·.push v) >>= _) _ _ _
      refine wpAny_bind ?_
      refine wpAny_updateSeq hS1 rfl (wpAny_pure ⟨plainId_quiet F.plain_extend_loop _, ?_⟩) (Nat.le_of_lt hacc) (by show (acc.push v).size ≤ sizeLine + 1; rw [Array.size_push]; omega)
      have keep3 : ∀ b o, b ≠ S → s1.heap.get? b = some o → (s1.heap.update S (Obj.mapSeq (·.push v))).get? b = some o := fun b o hbS e => (Heap.get?_update_other _ _ (Ne.symm hbS)).trans e
      have hSn : ∃ c', (s1.heap.update S (Obj.mapSeq (·.push v))).get? S = some (lstObj (acc.push v) c') := ⟨_, Heap.get?_update_self _ hS1 rfl⟩
      obtain ⟨c', hSn⟩ := hSn
      obtain ⟨m, hm, hS2⟩ := h7 { s1 with heap := s1.heap.update S (Obj.mapSeq (·.push v)) } [(S, lstObj (acc.push v) c')] ⟨rfl, h5.bare, fun b o hb e => keep3 b o (fun z => hb (by rw [z]; exact List.mem_singleton.mpr rfl)) e⟩ rfl
        ⟨rfl, fun p hp => by rw [List.mem_singleton.mp hp]; exact ⟨hSn, fun v q => by cases q⟩⟩ ⟨_, _, rfl, by rw [Array.toList_push]; exact hv.append (.cons h2 .nil)⟩
      refine ih m (by omega) _ ?_ ?_ hS2
      · obtain ⟨mc, hns, hnn⟩ := h5.nolimit
        exact ⟨mc, hns.at' fun o e => keep3 _ o (Ne.symm hSc) e, hnn⟩
      · exact hgo _ (keep3 a go (Ne.symm hSa) (h5.pin (a, go) (List.mem_append_left _ hpa)).1)
    · obtain ⟨ys, pl, H, q1, q2, q3, q4, q5, _⟩ := hp
      obtain ⟨acc, c, hS1, hv⟩ := ghl_at q3 q2
      have hn : H S = none := by
        obtain ⟨acc', c', e, _⟩ := q3
        exact (q4.pin (S, lstObj acc' c') (List.mem_append_right _ (by rw [e]; exact List.mem_singleton.mpr rfl))).2.1
      exact wpAny_pure (hend _ ys acc c pl H q1 hS1 hv q4 hn q5)

/-- collect(g): the items in a list at S, untracked -/
theorem collect_gx {X : Cx} {pins : Pins} {σ : L2.St} {k : Nat} {Th : List V → V → Hp → Prop} {Qe : List V → Hp → Prop} {u : Value} {s : Shared} {A : Around} {Q : List Value → Shared → Prop} {E : Value → Shared → Prop} (hr : Room (k + 4) A) (hfr : A.frames = some X.stack)
    (hTh : ∀ ys x H, Th ys x H) (h : RdG X pins σ k Th Qe u s) (hQ : ∀ s' its ys H, ys.length ≤ sizeLine → Vals ys its → Inv X pins σ H s' → Qe ys H → Q its s') : wpAny (model X.prog X.w) A (collect u) Q E s := by
  obtain ⟨a, g, c, go, sB, HB, N', cenv, fp, σ0, rfl, I, hex, ha1, ha2, hgo, hat, hgs, hos, hb, hkp, run⟩ := h
  have hsB : sB.heap.NoLimit := I.nolimit
  have hcl : cStatics < sB.heap.objs.size := let ⟨_, hn, _⟩ := hsB; hn.lt
  have hlim : s.heap.NoLimit := hsB.keeps hkp
  have hSa : s.heap.objs.size ≠ a := Nat.ne_of_gt ha2
  have hSc : s.heap.objs.size ≠ cStatics := Nat.ne_of_gt (Nat.lt_trans hcl (Nat.lt_trans ha1 ha2))
  unfold collect
  refine wpAny_bind (wpAny_runValue (codeAny_builtin F.entry_proto_collect ?_))
  rw [Around.under_plainId F.plain_proto_collect _]
  show wpAny _ A.in1 (newList [] >>= fun l => again (.builtin "list.__iadd__" ⟨[l, .ref a], []⟩)) _ _ s
  refine wpAny_bind (wpAny_newObj_type ?_)
  refine wpAny_pure ⟨plainId_quiet F.plain_list_iadd _, codeAny_builtin F.entry_list_iadd ?_⟩
  rw [Around.under_plainId F.plain_list_iadd _]
  have hS₁ : (s.heap.push { cls := .type "list", data := .seq ([] : List Value).toArray }).get? s.heap.objs.size = some { cls := .type "list", data := .seq ([] : List Value).toArray } := Heap.get?_push_size _ rfl
  have k1 : ∀ b o, s.heap.get? b = some o → (s.heap.push { cls := .type "list", data := .seq ([] : List Value).toArray }).get? b = some o := fun b o e => Heap.get?_push_of_some _ e
  have gty : (s.heap.push { cls := .type "list", data := .seq ([] : List Value).toArray }).IsGen a g := hgo _ (k1 _ _ hat)
  show wpAny _ A.in1 (Builtin.List.listExtendWith (.ref s.heap.objs.size) (.ref a) (.ref s.heap.objs.size)) _ _ _
  unfold Builtin.List.listExtendWith
  refine wpAny_bind (wpAny_typeOf (Heap.IsGen.typeIs (s := { s with heap := _ }) gty) ?_)
  have h1 : Builtin.List.listSameRef (.ref s.heap.objs.size) (.ref a) = false := by simp [Builtin.List.listSameRef, hSa]
  have h2 : (Value.type "generator" == Value.type "list") = false := by decide
  have h3 : (Value.type "generator" == Value.type "tuple") = false := by decide
  simp only [h1, h2, h3, Bool.or_false, Bool.false_eq_true, if_false]
  refine wpAny_bind (wpAny_pyIter_gen (s := { s with heap := _ }) gty ?_)
  refine wpAny_bind (wpAny_holding ?_)
  unfold Builtin.List.listLengthHint
  refine wpAny_bind (wpAny_specialOf (Heap.IsGen.typeIs (s := { s with heap := _ }) gty) F.gen_no_len ?_)
  show wpAny _ A.in1 (specialOf (Value.ref a) (Str.ofString "__length_hint__") >>= _) _ _ _
  refine wpAny_bind (wpAny_specialOf (Heap.IsGen.typeIs (s := { s with heap := _ }) gty) F.gen_no_hint ?_)
  refine wpAny_pure ?_
  show wpAny _ A.in1 (rule "list.extend.makes-room" >>= fun _ => Builtin.List.listTouch (.ref s.heap.objs.size) >>= fun _ =>
    again (.builtin "list.extend.loop" ⟨[.ref s.heap.objs.size, .ref a, .ref s.heap.objs.size], []⟩)) _ _ _
  refine wpAny_bind (wpAny_rule ?_)
  refine wpAny_bind ?_
  show wpAny _ A.in1 (updateSeq s.heap.objs.size (·.push .none) >>= fun _ => updateSeq s.heap.objs.size (·.pop)) _ _ _
  refine wpAny_bind (wpAny_updateSeq hS₁ rfl ?_)
  have hS3 := Heap.get?_update_self (Obj.mapSeq (·.push Value.none)) hS₁ rfl
  refine wpAny_updateSeq (hz := by seq_fits) hS3 rfl ?_
  have hS4 := Heap.get?_update_self (Obj.mapSeq (·.pop)) hS3 rfl
  have up : ∀ (h : Heap) (f : Obj → Obj), (∀ b o, s.heap.get? b = some o → h.get? b = some o) → ∀ b o, s.heap.get? b = some o → (h.update s.heap.objs.size f).get? b = some o := fun h f q b o e =>
    (Heap.get?_update_other _ _ (Ne.symm (Nat.ne_of_lt (Heap.lt_size e)))).trans (q b o e)
  have k4 := up _ (Obj.mapSeq (·.pop)) (up _ (Obj.mapSeq (·.push Value.none)) k1)
  refine wpAny_pure ⟨plainId_quiet F.plain_extend_loop _, ?_⟩
  have hroom : Room (k + 1) A.in1.in1 := ⟨hr.hd, by have := hr.dp; show A.depth + 3 * (k + 1) + 5 < _; omega, by have := hr.un; show A.units + 1 + 1 + 16 * (k + 1) + 200 < _; omega⟩
  refine drainL (G := gcx X sB HB N' cenv fp (A.in1.in1.deeper cenv) [(a, go)]) (Th := Th) (Qe := Qe) (σ0 := σ0) (go := go) hr.hd (by have := hr.dp; show A.depth < _; omega) (List.mem_singleton.mpr rfl) hgo hSa hSc
    (fun s' ys acc c pl H q1 q2 q3 q4 q5 q6 => ?_) sizeLine _ (hlim.keeps k4) (hgo _ (k4 _ _ hat)) (susp_of hgs (run A.in1.in1 _ [s.heap.objs.size] (GhL s.heap.objs.size) _ hroom hfr (fun b hb => by rw [List.mem_singleton.mp hb]; exact Nat.le_refl _) k4 hos (allBare_setGen (s := { s with heap := _ }) hb rfl)
      ⟨rfl, fun p hp => by rw [List.mem_singleton.mp hp]; exact ⟨hS4, fun v q => by cases q⟩⟩ ⟨#[], _, rfl, .nil⟩))
  show wpAny _ A (load s.heap.objs.size >>= _) _ _ s'
  refine wpAny_bind (wpAny_load q2 ?_)
  exact wpAny_pure (hQ s' acc.toList ys H q1 q3 (inv_back I hex q4) q6)
end GX
set_option Elab.async false
set_option linter.all false
set_option maxRecDepth 100000
set_option maxHeartbeats 4000000
namespace GX
open PySem PySem.Spec PyProof.Rows L2 GenW

theorem boot_sorted' : bootBuiltins "sorted" = some (.builtin "sorted") := by decide +kernel
theorem boot_sum' : bootBuiltins "sum" = some (.builtin "sum") := by decide +kernel
theorem boot_any' : bootBuiltins "any" = some (.builtin "any") := by decide +kernel
theorem boot_all' : bootBuiltins "all" = some (.builtin "all") := by decide +kernel

section
variable {X : Cx} {pins : Pins} {σ : L2.St} {H : Hp} {s : Shared}
theorem inv_A (I : Inv X pins σ H s) {A' : Around} (h1 : A'.handled = X.A.handled) (h2 : A'.frames = X.A.frames) : Inv { X with A := A' } pins σ H s :=
  ⟨⟨I.ok.mod, I.ok.kind, I.ok.glob, I.ok.blt, I.ok.above, I.ok.inj, I.ok.has, I.ok.cab, fun c => h1.trans (I.ok.hd c), h2.trans I.ok.frames, I.ok.stk, I.ok.exf, I.ok.bs, I.ok.bsz, I.ok.noex, I.ok.exfs, I.ok.funs, I.ok.frf⟩, I.os, I.bare, I.base, I.loc, I.cell, I.free, I.freeC, I.pin, I.hok, I.len⟩
theorem inv_A' {A' : Around} (I : Inv { X with A := A' } pins σ H s) (h1 : X.A.handled = A'.handled) (h2 : X.A.frames = A'.frames) : Inv X pins σ H s := inv_A (X := { X with A := A' }) I h1 h2
end

section
variable {X : Cx} {p pos : Pos} {e : Expr} {tg : TGx} {k : Nat}
/-- sorted(g): r is list.sort's rule -/
def tSortedG (tg : TGx) (r : V → List V → Hp → VK → Prop) : TE := fun σ H Q => tg σ H (fun _ _ _ => True) fun ys H1 => ∀ l, H1 l = none → r (.ref l) [] (upd H1 l (.lst ys)) fun _ H2 => Q (.ref l) H2
theorem pe_sortedG {r : V → List V → Hp → VK → Prop} (h : PGx X k e tg) (hs : ∀ A', MtR { X with A := A' } "list.sort" r) (hr : Room (k + 5) X.A) (hg : Gl X "sorted") (hm : X.mg "sorted" = none)
    (he : starEach [e] X.env = (false, eval e X.env) :: starEach [] X.env := by rfl) : PE X (.Call (.Name "sorted" p) [e] [] pos) (tSortedG tg r) := by
  refine ⟨fun pins s σ H Q I hq => ?_⟩
  refine wpAny_Call_Name_kw (ld_blt I hg hm boot_sorted' ?_)
  refine PyProof.Rows.callWith_builtin1 ?_ he (by rfl)
  rw [he]
  show wpAny _ _ (spliced ((false, eval e X.env) :: backTo pos (starEach [] X.env))) _ _ s
  refine Calls.spliced_cons (thn (h.run pins s σ H _ _ I hq) fun u s1 hG => ?_)
  refine Calls.spliced_nil ?_
  refine Calls.call_function_entry kind_sorted plain_sorted entry_sorted (args_sorted1 _) ?_
  unfold Builtin.«sorted»
  refine wpAny_bind (m := checkCount "sorted" 1 1 _) (wpAny_pure ?_)
  have hr1 : Room (k + 4) X.A.in1 := ⟨hr.hd, by have := hr.dp; show X.A.depth + 3 * (k + 4) + 5 < _; omega, by have := hr.un; show X.A.units + 1 + 16 * (k + 4) + 200 < _; omega⟩
  refine wpAny_bind (collect_gx (pins := pins) (σ := σ) hr1 I.ok.frames (fun _ _ _ => trivial) hG fun s' its ys H1 hlen hv I1 hq1 => ?_)
  have hil : its.length ≤ sizeLine := by rw [← hv.length]; exact hlen
  refine wpAny_bind (wpAny_newList ?_ hil)
  have fresh : H1 s'.heap.objs.size = none := I1.hok.fresh (Nat.le_refl _)
  have I2 : Inv X pins σ (upd H1 s'.heap.objs.size (.lst ys)) { s' with heap := s'.heap.push (seqObj "list" its.toArray 0) } :=
    I1.laid (t' := s'.toks) (fun _ _ e => Heap.get?_push_of_some _ e) (Nat.le_refl _) ⟨hlen, its, 0, hv, Heap.get?_push_size _ rfl⟩
  refine wpAny_bind (wpAny_holding ?_)
  refine wpAny_mono (hs X.A.in1 pins _ σ _ (.ref s'.heap.objs.size) [] (.ref s'.heap.objs.size) [] _ (inv_A (A' := X.A.in1) I2 rfl rfl) rfl .nil (hq1 _ fresh)) (fun v s3 h3 => ?_) fun _ _ e => e
  obtain ⟨v', H3, I3, r3, q3⟩ := h3
  exact wpAny_pure ⟨_, rfl, .ref s'.heap.objs.size, H3, inv_A' I3 rfl rfl, rfl, q3⟩

/-! ### sum -/
def vsum : List V → Int
  | [] => 0
  | .int i :: r => i + vsum r
  | _ :: r => vsum r
theorem vsum_append (xs ys : List V) : vsum (xs ++ ys) = vsum xs + vsum ys := by
  induction xs with
  | nil => simp [vsum]
  | cons v r ih =>
    cases v <;> simp [vsum, ih] <;> omega
theorem vsum_ints (is : List Int) : vsum (is.map V.int) = is.sum := by
  induction is with
  | nil => rfl
  | cons i r ih => simp [vsum, ih]
def GhS (S : Addr) : List V → Pins → Prop := fun ys pl => ∃ (t : Tok) (c : Nat), pl = [(S, lstObj #[.int (vsum ys) t] c)]
def ThS : List V → V → Hp → Prop := fun ys x _ => ∃ j, x = .int j ∧ InLong j ∧ InLong (vsum ys + j)
theorem drainS {G : Cx} {Qe : List V → Hp → Prop} {σ0 : L2.St} {A : Around} {a S : Addr} {g : Nat} {go : Obj} {R : Result → Shared → Prop} (hh : A.handled = none) (hd : A.depth < recursionLimit) (hpa : (a, go) ∈ G.pn) (hgo : ∀ h : Heap, h.get? a = some go → h.IsGen a g)
    (hSa : S ≠ a) (hSc : S ≠ cStatics)
    (hend : ∀ s' ys t pl H, Inv G pl σ0 H s' → Qe ys H → R (.ok (.ret (.int (vsum ys) t))) s') :
    ∀ (n : Nat) (s : Shared) (z : Int) (t : Tok) (c : Nat), s.heap.NoLimit → s.heap.IsGen a g → s.heap.get? S = some (lstObj #[.int z t] c) → Susp G ⟨[S], GhS S, ThS, Qe⟩ σ0 A.in1 g n s → codeAny (model G.prog G.w) A (.builtin "sum.loop" ⟨[.ref a, .ref S, rawInt 0, rawInt 0], []⟩) R s := by
  intro n
  induction n using Nat.strongRecOn with
  | ind n ih =>
    intro s z t c hl hg hS0 hS
    refine codeAny_builtin F.entry_sum_loop ?_
    rw [Around.under_plainId F.plain_sum_loop _]
    show wpAny _ A.in1 (seqItems? (.ref S) >>= _) _ _ s
    refine wpAny_bind (wpAny_seqItems hS0 rfl ?_)
    show wpAny _ A.in1 (tryCatch (pyNext (.ref a)) _ >>= _) _ _ s
    have hS0' := hS0
    refine wpAny_bind (wpAny_tryCatch ?_)
    refine gx_next (A := A.in1) hh hd hl hg hS (fun ys x v pl H s1 h1 h2 h3 h4 h5 h6 h8 h7 => ?_) fun s1 hp => ?_
    · obtain ⟨t', c', rfl⟩ := h4
      have e1 : s1.heap.get? S = some (lstObj #[.int (vsum ys) t'] c') := (h3.at_ _ (List.mem_singleton.mpr rfl)).1
      have e2 := e1.symm.trans ((h8 S (List.mem_singleton.mpr rfl)).trans hS0)
      obtain ⟨j, rfl, ⟨f1, f2⟩, f3, f4⟩ := h6
      obtain ⟨tv, rfl⟩ := (show ∃ t, v = Value.int j t from h2)
      have ez : z = vsum ys := by
        have e3 : (#[Value.int (vsum ys) t'] : Array Value) = #[.int z t] := by
          have := congrArg Obj.data (Option.some.inj e2)
          injection this
        have e4 := congrArg Array.toList e3
        simp only [List.cons.injEq, Value.int.injEq, and_true] at e4
        exact e4.1.symm
      subst ez
      have hc : ((decide (-(2 ^ 63) ≤ j) && decide (j < 2 ^ 63)) && (decide (-(2 ^ 63) ≤ vsum ys + j) && decide (vsum ys + j < 2 ^ 63))) = true := by
        simp only [Bool.and_eq_true, decide_eq_true_eq]
        exact ⟨⟨f1, f2⟩, f3, f4⟩
      show wpAny _ A.in1 (if (_ : Bool) = true then (mkInt (vsum ys + j) >>= _) else _) _ _ _
      split
      · refine wpAny_bind (wpAny_mkInt ?_)
        show wpAny _ A.in1 (updateSeq S (fun _ => #[.int (vsum ys + j) s1.toks]) >>= _) _ _ _
        refine wpAny_bind ?_
        refine wpAny_updateSeq e1 rfl (wpAny_pure ⟨plainId_quiet F.plain_sum_loop _, ?_⟩)
        have keep3 : ∀ b o, b ≠ S → s1.heap.get? b = some o → (s1.heap.update S (Obj.mapSeq (fun _ => #[.int (vsum ys + j) s1.toks]))).get? b = some o := fun b o hbS e => (Heap.get?_update_other _ _ (Ne.symm hbS)).trans e
        obtain ⟨c2, hSn⟩ : ∃ c2, (s1.heap.update S (Obj.mapSeq (fun _ => #[.int (vsum ys + j) s1.toks]))).get? S = some (lstObj #[.int (vsum ys + j) s1.toks] c2) := ⟨_, Heap.get?_update_self _ e1 rfl⟩
        obtain ⟨m, hm, hS2⟩ := h7 { s1 with heap := s1.heap.update S (Obj.mapSeq (fun _ => #[.int (vsum ys + j) s1.toks])), toks := s1.toks + 1 } [(S, lstObj #[.int (vsum ys + j) s1.toks] c2)] ⟨rfl, h5.bare, fun b o hb e => keep3 b o (fun z => hb (by rw [z]; exact List.mem_singleton.mpr rfl)) e⟩ rfl
          ⟨rfl, fun p hp => by rw [List.mem_singleton.mp hp]; exact ⟨hSn, fun v q => by cases q⟩⟩ ⟨s1.toks, c2, by rw [vsum_append]; simp [vsum]⟩
        refine ih m (by omega) _ (vsum ys + j) s1.toks c2 ?_ ?_ hSn hS2
        · obtain ⟨mc, hns, hnn⟩ := h5.nolimit
          exact ⟨mc, hns.at' fun o e => keep3 _ o (Ne.symm hSc) e, hnn⟩
        · exact hgo _ (keep3 a go (Ne.symm hSa) (h5.pin (a, go) (List.mem_append_left _ hpa)).1)
      · rename_i hneg
        exact absurd hc hneg
    · obtain ⟨ys, pl, H, q1, q2, ⟨t', c', rfl⟩, q4, q5, q6⟩ := hp
      have e1 : s1.heap.get? S = some (lstObj #[.int (vsum ys) t'] c') := (q2.at_ _ (List.mem_singleton.mpr rfl)).1
      have e2 := e1.symm.trans ((q6 S (List.mem_singleton.mpr rfl)).trans hS0)
      have ez : z = vsum ys := by
        have e3 : (#[Value.int (vsum ys) t'] : Array Value) = #[.int z t] := by
          have := congrArg Obj.data (Option.some.inj e2)
          injection this
        have e4 := congrArg Array.toList e3
        simp only [List.cons.injEq, Value.int.injEq, and_true] at e4
        exact e4.1.symm
      subst ez
      exact wpAny_pure (hend s1 ys t _ H q4 q5)
def tSumG (tg : TGx) : TE := fun σ H Q => tg σ H ThS fun ys H1 => Q (.int (vsum ys)) H1
theorem pe_sumG (h : PGx X k e tg) (hr : Room (k + 4) X.A) (hg : Gl X "sum") (hm : X.mg "sum" = none)
    (he : starEach [e] X.env = (false, eval e X.env) :: starEach [] X.env := by rfl) : PE X (.Call (.Name "sum" p) [e] [] pos) (tSumG tg) := by
  refine ⟨fun pins s σ H Q I hq => ?_⟩
  refine wpAny_Call_Name_kw (ld_blt I hg hm boot_sum' ?_)
  refine PyProof.Rows.callWith_builtin1 ?_ he (by rfl)
  rw [he]
  show wpAny _ _ (spliced ((false, eval e X.env) :: backTo pos (starEach [] X.env))) _ _ s
  refine Calls.spliced_cons (thn (h.run pins s σ H _ _ I hq) fun u s1 hG => ?_)
  refine Calls.spliced_nil ?_
  obtain ⟨a, g, c, go, sB, HB, N', cenv, fp, σ0, rfl, I1, hex, ha1, ha2, hgo, hat, hgs, hos, hb, hkp, run⟩ := hG
  have hsB : sB.heap.NoLimit := I1.nolimit
  have hcl : cStatics < sB.heap.objs.size := let ⟨_, hn, _⟩ := hsB; hn.lt
  have hlim : s1.heap.NoLimit := hsB.keeps hkp
  refine call_function_tree F.kind_sum F.plain_sum F.entry_sum (F.args_sum1 _) ?_
  unfold Builtin.«sum»
  simp only [List.length_cons, List.length_nil]
  rw [if_neg (by decide)]
  refine wpAny_bind (wpAny_of_eq (show Builtin.Builtins.bindParams "sum" ["start"] 0 { } = pure [none] from rfl) ?_)
  refine wpAny_bind (wpAny_pyIter_gen (hgo _ hat) ?_)
  refine wpAny_bind (wpAny_mkInt ?_)
  refine wpAny_bind (wpAny_pure ?_)
  simp only [List.forIn_cons, List.forIn_nil]
  refine wpAny_bind (wpAny_bind (wpAny_bind (wpAny_isInstance (T := "int") (b := false) (typeIs_int _ _ _) PySem.sub_int_str ?_)))
  simp only [Bool.false_eq_true, if_false]
  refine wpAny_pure (wpAny_bind (wpAny_bind (wpAny_isInstance (T := "int") (b := false) (typeIs_int _ _ _) PySem.sub_int_bytes ?_)))
  simp only [Bool.false_eq_true, if_false]
  refine wpAny_pure (wpAny_bind (wpAny_bind (wpAny_isInstance (T := "int") (b := false) (typeIs_int _ _ _) PySem.sub_int_bytearray ?_)))
  simp only [Bool.false_eq_true, if_false]
  refine wpAny_pure (wpAny_pure ?_)
  refine wpAny_bind (wpAny_newObj_type ?_)
  have k1 : ∀ (o : Obj) b u, s1.heap.get? b = some u → (s1.heap.push o).get? b = some u := fun o b u e => Heap.get?_push_of_some _ e
  have hroom : Room (k + 1) X.A.in1.in1 := ⟨hr.hd, by have := hr.dp; show X.A.depth + 3 * (k + 1) + 5 < _; omega, by have := hr.un; show X.A.units + 1 + 1 + 16 * (k + 1) + 200 < _; omega⟩
  have hS0 : ∀ t, (s1.heap.push { cls := .type "list", data := .seq ([Value.int 0 t] : List Value).toArray }).get? s1.heap.objs.size = some (lstObj #[.int (vsum []) t] 0) := fun t => Heap.get?_push_size _ rfl
  refine wpAny_pure ⟨plainId_quiet F.plain_sum_loop _, ?_⟩
  refine drainS (G := gcx X sB HB N' cenv fp (X.A.in1.in1.deeper cenv) [(a, go)]) (Qe := fun ys H1 => Q (V.int (vsum ys)) H1) (σ0 := σ0) (A := X.A) (go := go) hr.hd (by have := hr.dp; show X.A.depth < _; omega) (List.mem_singleton.mpr rfl) hgo (Nat.ne_of_gt ha2) (Nat.ne_of_gt (Nat.lt_trans hcl (Nat.lt_trans ha1 ha2)))
    (fun s' ys t pl H1 q1 q2 => ?_) sizeLine _ (vsum []) s1.toks 0 ?_ ?_ ?_ ?_
  · exact ⟨.int (vsum ys), H1, inv_back I1 hex q1, ⟨t, rfl⟩, q2⟩
  · exact hlim.keeps (k1 _)
  · exact hgo _ (k1 _ _ _ hat)
  · exact hS0 _
  · refine susp_of hgs (run X.A.in1.in1 _ [s1.heap.objs.size] (GhS s1.heap.objs.size) _ hroom I.ok.frames (fun b hb => by rw [List.mem_singleton.mp hb]; exact Nat.le_refl _) (k1 _) hos (allBare_setGen (s := { s1 with heap := _ }) hb rfl) ?_ ⟨s1.toks, 0, rfl⟩)
    exact ⟨rfl, fun p hp => by rw [List.mem_singleton.mp hp]; exact ⟨hS0 _, fun v q => by cases q⟩⟩
end

/-! ### any, all -/
theorem drain1 {G : Cx} {nm : String} {bb : Bool} {Th : List V → V → Hp → Prop} {Qe : List V → Hp → Prop} {σ0 : L2.St} {A : Around} {a : Addr} {g : Nat} {go : Obj} {R : Result → Shared → Prop} (hh : A.handled = none) (hd : A.depth < recursionLimit) (hpa : (a, go) ∈ G.pn) (hgo : ∀ h : Heap, h.get? a = some go → h.IsGen a g)
    (hTh : ∀ ys x H, Th ys x H → ∃ b, x = .bl b)
    (step : ∀ (s : Shared) (R' : Result → Shared → Prop), wpAny (model G.prog G.w) A.in1 (pyNext (.ref a)) (fun r s1 => match r with
        | none => R' (.ok (.ret (.bool (!bb)))) s1
        | some v => ∃ b, v = .bool b ∧ if b = bb then R' (.ok (.ret (.bool bb))) s1 else codeAny (model G.prog G.w) A (.builtin nm ⟨[.ref a], []⟩) R' s1) (fun e s1 => R' (.error e) s1) s → codeAny (model G.prog G.w) A (.builtin nm ⟨[.ref a], []⟩) R' s)
    (hend : ∀ s' ys pl H, Inv G pl σ0 H s' → Qe ys H → (∀ y ∈ ys, y ≠ V.bl bb) → R (.ok (.ret (.bool (!bb)))) s') (hyes : ∀ s' ys pl H, Inv G pl σ0 H s' → Th ys (.bl bb) H → R (.ok (.ret (.bool bb))) s') :
    ∀ (n : Nat) (s : Shared), s.heap.NoLimit → s.heap.IsGen a g → Susp G ⟨[], fun ys pl => pl = [] ∧ ∀ y ∈ ys, y ≠ V.bl bb, Th, Qe⟩ σ0 A.in1 g n s → codeAny (model G.prog G.w) A (.builtin nm ⟨[.ref a], []⟩) R s := by
  intro n
  induction n using Nat.strongRecOn with
  | ind n ih =>
    intro s hl hg hS
    refine step s R (gx_next (A := A.in1) hh hd hl hg hS (fun ys x v pl H s1 h1 h2 h3 h4 h5 h6 h8 h7 => ?_) fun s1 hp => ?_)
    · obtain ⟨b, rfl⟩ := hTh _ _ _ h6
      have ev : v = Value.bool b := h2
      refine ⟨b, ev, ?_⟩
      by_cases hb : b = bb
      · rw [if_pos hb]
        subst hb
        exact hyes s1 ys pl H h5 h6
      · rw [if_neg hb]
        obtain ⟨m, hm, hS2⟩ := h7 s1 [] ⟨rfl, h5.bare, fun _ _ _ e => e⟩ rfl ⟨rfl, fun p hp => absurd hp (by simp)⟩ ⟨rfl, fun y hy => by
          rcases List.mem_append.mp hy with z | z
          · exact h4.2 y z
          · rw [List.mem_singleton.mp z]
            exact fun q => hb (V.bl.inj q)⟩
        exact ih m (by omega) s1 h5.nolimit (hgo _ (h5.pin (a, go) (List.mem_append_left _ hpa)).1) hS2
    · obtain ⟨ys, pl, H, q1, q2, q3, q4, q5, q6⟩ := hp
      exact hend s1 ys pl H q4 q5 q3.2
theorem step_any {prog : Program} {w : World} {A : Around} {a : Addr} (s : Shared) (R' : Result → Shared → Prop) (h : wpAny (model prog w) A.in1 (pyNext (.ref a)) (fun r s1 => match r with
        | none => R' (.ok (.ret (.bool (!true)))) s1
        | some v => ∃ b, v = .bool b ∧ if b = true then R' (.ok (.ret (.bool true))) s1 else codeAny (model prog w) A (.builtin "any.loop" ⟨[.ref a], []⟩) R' s1) (fun e s1 => R' (.error e) s1) s) : codeAny (model prog w) A (.builtin "any.loop" ⟨[.ref a], []⟩) R' s := by
  refine codeAny_builtin F.entry_any_loop ?_
  rw [Around.under_plainId F.plain_any_loop _]
  show wpAny _ A.in1 (pyNext (.ref a) >>= _) _ _ s
  refine wpAny_bind (thn h fun r s1 h1 => ?_)
  cases r with
  | none => exact wpAny_bind (wpAny_rule (wpAny_pure h1))
  | some v =>
    obtain ⟨b, rfl, h1⟩ := h1
    refine wpAny_bind (wpAny_holding (wpAny_truthy_bool ?_))
    refine wpAny_bind (wpAny_letGo ?_)
    cases b with
    | true =>
      simp only [if_true]
      exact wpAny_bind (wpAny_rule (wpAny_pure h1))
    | false =>
      simp only [Bool.false_eq_true, if_false]
      exact wpAny_pure ⟨plainId_quiet F.plain_any_loop _, h1⟩
theorem step_all {prog : Program} {w : World} {A : Around} {a : Addr} (s : Shared) (R' : Result → Shared → Prop) (h : wpAny (model prog w) A.in1 (pyNext (.ref a)) (fun r s1 => match r with
        | none => R' (.ok (.ret (.bool (!false)))) s1
        | some v => ∃ b, v = .bool b ∧ if b = false then R' (.ok (.ret (.bool false))) s1 else codeAny (model prog w) A (.builtin "all.loop" ⟨[.ref a], []⟩) R' s1) (fun e s1 => R' (.error e) s1) s) : codeAny (model prog w) A (.builtin "all.loop" ⟨[.ref a], []⟩) R' s := by
  refine codeAny_builtin F.entry_all_loop ?_
  rw [Around.under_plainId F.plain_all_loop _]
  show wpAny _ A.in1 (pyNext (.ref a) >>= _) _ _ s
  refine wpAny_bind (thn h fun r s1 h1 => ?_)
  cases r with
  | none => exact wpAny_bind (wpAny_rule (wpAny_pure h1))
  | some v =>
    obtain ⟨b, rfl, h1⟩ := h1
    refine wpAny_bind (wpAny_holding (wpAny_truthy_bool ?_))
    refine wpAny_bind (wpAny_letGo ?_)
    cases b with
    | false =>
      simp only [Bool.false_eq_true, if_false]
      exact wpAny_bind (wpAny_rule (wpAny_pure h1))
    | true =>
      simp only [if_true]
      exact wpAny_pure ⟨plainId_quiet F.plain_all_loop _, h1⟩
def tAnyG (tg : TGx) : TE := fun σ H Q => tg σ H (fun _ x H1 => ∃ b, x = .bl b ∧ (b = true → Q (.bl true) H1)) fun ys H1 => (∀ y ∈ ys, y ≠ V.bl true) → Q (.bl false) H1
def tAllG (tg : TGx) : TE := fun σ H Q => tg σ H (fun _ x H1 => ∃ b, x = .bl b ∧ (b = false → Q (.bl false) H1)) fun ys H1 => (∀ y ∈ ys, y ≠ V.bl false) → Q (.bl true) H1
section
variable {X : Cx} {p pos : Pos} {e : Expr} {tg : TGx} {k : Nat}
theorem pe_anyG (h : PGx X k e tg) (hr : Room (k + 4) X.A) (hg : Gl X "any") (hm : X.mg "any" = none)
    (he : starEach [e] X.env = (false, eval e X.env) :: starEach [] X.env := by rfl) : PE X (.Call (.Name "any" p) [e] [] pos) (tAnyG tg) := by
  refine ⟨fun pins s σ H Q I hq => ?_⟩
  refine wpAny_Call_Name_kw (ld_blt I hg hm boot_any' ?_)
  refine PyProof.Rows.callWith_builtin1 ?_ he (by rfl)
  rw [he]
  show wpAny _ _ (spliced ((false, eval e X.env) :: backTo pos (starEach [] X.env))) _ _ s
  refine Calls.spliced_cons (thn (h.run pins s σ H _ _ I hq) fun u s1 hG => ?_)
  refine Calls.spliced_nil ?_
  obtain ⟨a, g, c, go, sB, HB, N', cenv, fp, σ0, rfl, I1, hex, ha1, ha2, hgo, hat, hgs, hos, hb, hkp, run⟩ := hG
  refine call_function_tree F.kind_any F.plain_any F.entry_any (F.args_any1 _) ?_
  unfold Builtin.«any»
  refine wpAny_bind (m := oneArg "any" _) (wpAny_pure ?_)
  refine wpAny_bind (wpAny_pyIter_gen (hgo _ hat) ?_)
  have hroom : Room (k + 1) X.A.in1.in1 := ⟨hr.hd, by have := hr.dp; show X.A.depth + 3 * (k + 1) + 5 < _; omega, by have := hr.un; show X.A.units + 1 + 1 + 16 * (k + 1) + 200 < _; omega⟩
  refine wpAny_pure ⟨plainId_quiet F.plain_any_loop _, ?_⟩
  refine drain1 (G := gcx X sB HB N' cenv fp (X.A.in1.in1.deeper cenv) [(a, go)]) (bb := true) (nm := "any.loop") (Th := fun _ x H1 => ∃ b, x = .bl b ∧ (b = true → Q (.bl true) H1)) (Qe := fun ys H1 => (∀ y ∈ ys, y ≠ V.bl true) → Q (.bl false) H1) (σ0 := σ0) (A := X.A) (go := go) hr.hd (by have := hr.dp; show X.A.depth < _; omega) (List.mem_singleton.mpr rfl) hgo
    (fun _ _ _ ⟨b, e, _⟩ => ⟨b, e⟩) step_any (fun s' ys pl H1 q1 q2 q3 => ?_) (fun s' ys pl H1 q1 q2 => ?_) sizeLine _ (I1.nolimit.keeps hkp) (hgo _ hat) (susp_of hgs (run X.A.in1.in1 _ [] (fun ys pl => pl = [] ∧ ∀ y ∈ ys, y ≠ V.bl true) [] hroom I.ok.frames (fun b hb => absurd hb (by simp)) (fun _ _ e => e) hos (allBare_setGen hb rfl) ⟨rfl, fun p hp => absurd hp (by simp)⟩ ⟨rfl, fun y hy => absurd hy (by simp)⟩))
  · exact ⟨.bl false, H1, inv_back I1 hex q1, rfl, q2 q3⟩
  · obtain ⟨b, e, q2⟩ := q2
    cases e
    exact ⟨.bl true, H1, inv_back I1 hex q1, rfl, q2 rfl⟩
theorem pe_allG (h : PGx X k e tg) (hr : Room (k + 4) X.A) (hg : Gl X "all") (hm : X.mg "all" = none)
    (he : starEach [e] X.env = (false, eval e X.env) :: starEach [] X.env := by rfl) : PE X (.Call (.Name "all" p) [e] [] pos) (tAllG tg) := by
  refine ⟨fun pins s σ H Q I hq => ?_⟩
  refine wpAny_Call_Name_kw (ld_blt I hg hm boot_all' ?_)
  refine PyProof.Rows.callWith_builtin1 ?_ he (by rfl)
  rw [he]
  show wpAny _ _ (spliced ((false, eval e X.env) :: backTo pos (starEach [] X.env))) _ _ s
  refine Calls.spliced_cons (thn (h.run pins s σ H _ _ I hq) fun u s1 hG => ?_)
  refine Calls.spliced_nil ?_
  obtain ⟨a, g, c, go, sB, HB, N', cenv, fp, σ0, rfl, I1, hex, ha1, ha2, hgo, hat, hgs, hos, hb, hkp, run⟩ := hG
  refine call_function_tree F.kind_all F.plain_all F.entry_all (F.args_all1 _) ?_
  unfold Builtin.«all»
  refine wpAny_bind (m := oneArg "all" _) (wpAny_pure ?_)
  refine wpAny_bind (wpAny_pyIter_gen (hgo _ hat) ?_)
  have hroom : Room (k + 1) X.A.in1.in1 := ⟨hr.hd, by have := hr.dp; show X.A.depth + 3 * (k + 1) + 5 < _; omega, by have := hr.un; show X.A.units + 1 + 1 + 16 * (k + 1) + 200 < _; omega⟩
  refine wpAny_pure ⟨plainId_quiet F.plain_all_loop _, ?_⟩
  refine drain1 (G := gcx X sB HB N' cenv fp (X.A.in1.in1.deeper cenv) [(a, go)]) (bb := false) (nm := "all.loop") (Th := fun _ x H1 => ∃ b, x = .bl b ∧ (b = false → Q (.bl false) H1)) (Qe := fun ys H1 => (∀ y ∈ ys, y ≠ V.bl false) → Q (.bl true) H1) (σ0 := σ0) (A := X.A) (go := go) hr.hd (by have := hr.dp; show X.A.depth < _; omega) (List.mem_singleton.mpr rfl) hgo
    (fun _ _ _ ⟨b, e, _⟩ => ⟨b, e⟩) step_all (fun s' ys pl H1 q1 q2 q3 => ?_) (fun s' ys pl H1 q1 q2 => ?_) sizeLine _ (I1.nolimit.keeps hkp) (hgo _ hat) (susp_of hgs (run X.A.in1.in1 _ [] (fun ys pl => pl = [] ∧ ∀ y ∈ ys, y ≠ V.bl false) [] hroom I.ok.frames (fun b hb => absurd hb (by simp)) (fun _ _ e => e) hos (allBare_setGen hb rfl) ⟨rfl, fun p hp => absurd hp (by simp)⟩ ⟨rfl, fun y hy => absurd hy (by simp)⟩))
  · exact ⟨.bl true, H1, inv_back I1 hex q1, rfl, q2 q3⟩
  · obtain ⟨b, e, q2⟩ := q2
    cases e
    exact ⟨.bl false, H1, inv_back I1 hex q1, rfl, q2 rfl⟩
end
end GX
set_option Elab.async false
set_option linter.all false
set_option maxRecDepth 100000
set_option maxHeartbeats 4000000
/-! What all laws of this program share. -/
namespace KC
open PySem PySem.Spec PyProof.Rows L2 GX Evl

/-- a def of the top, called by its name -/
structure Cal (P : Program) (w : World) (K : PySem.W.Frag) (mg : Str → Option Value) (base : Heap) (nm : Str) (k : Nat) (ps : List Str) (sp : Sp) : Prop where
  out : ∃ f fd, mg nm = some (.ref f) ∧ PySem.W.keepIn K (.ref f) = true ∧ Binds K fd ps [] ∧ FnOk P w K mg base CX0 k f fd ps sp
theorem pe_callC {X : Cx} {nm : Str} {k : Nat} {ps : List Str} {sp : Sp} {p pos : Pos} {e : Expr} {es : List Expr} {t : TA} (C : Cal X.prog X.w X.K X.mg X.base nm k ps sp) (hr : Room k X.A) (hg : Gl X nm) (ha : PA X (e :: es) t)
    (hdb : (nm == ("__debug__" : Str)) = false := by decide) (he : starEach (e :: es) X.env = (false, eval e X.env) :: starEach es X.env := by rfl) (hpl : (backTo pos (starEach es X.env)).any (·.1) = false := by rfl) :
    PE X (.Call (.Name nm p) (e :: es) [] pos) (tCall sp [] E0 t) := by
  obtain ⟨f, fd, h1, h2, h3, h4⟩ := C.out
  exact pe_call h4 hr hg h1 h2 h3 .nil pass0 ha hdb he hpl

/-- the builtins that no def of the text hides -/
structure Bs (mg : Str → Option Value) : Prop where
  len : mg "len" = none
  int : mg "int" = none
  min : mg "min" = none
  max : mg "max" = none
  list : mg "list" = none
  sorted : mg "sorted" = none
  sum : mg "sum" = none
  range : mg "range" = none
  enumerate : mg "enumerate" = none
  zip : mg "zip" = none
  any : mg "any" = none
  isinstance : mg "isinstance" = none
  bool : mg "bool" = none
  reversed : mg "reversed" = none

/-- a def whose code object is known (its table of codes is used) -/
structure FunT (K : PySem.W.Frag) (x qual : Str) (st : Stmt) (f : Addr) (fd : FuncData) (c : Addr) : Prop where
  ex : ∃ (oc : Value) (od : Option Addr) (kV doc pm : Value) (an : Option Addr) (ct : Value) (osl : Array (Option Value)),
    fd = PySem.W.fnOf x qual (defArgs st) (defBody st) (defScope st) .none kV doc pm an (.ref c) ct ∧ K.lookup f = some ⟨oc, od, .func fd, osl⟩ ∧ PySem.W.codeIn K (.ref c) qual = true
  kp : PySem.W.keepIn K (.ref f) = true
theorem FunT.fn {K : PySem.W.Frag} {x qual : Str} {st : Stmt} {f c : Addr} {fd : FuncData} (F : FunT K x qual st f fd c) : Fun K x qual st f fd := by
  obtain ⟨oc, od, kV, doc, pm, an, ct, osl, h1, h2, h3⟩ := F.ex
  exact ⟨⟨oc, od, kV, doc, pm, an, .ref c, ct, osl, h1, h2, h3⟩, F.kp⟩
section
variable {P : Program} {w : World} {K : PySem.W.Frag} {mg : Str → Option Value} {base : Heap}
theorem FunT.ok {x qual : Str} {st : Stmt} {f c : Addr} {fd : FuncData} {N ps : List Str} {k : Nat} {sp : Sp} (F : FunT K x qual st f fd c) (S : FnScope N ps (defScope st)) (len : ∀ vs H Q E, sp vs H Q E → vs.length = ps.length)
    (hbody : ∀ (A : Around) (outer : List Env) (s : Shared) (H : Hp) (vs : List V) (Q : VK) (E : XK), Room k (A.deeper (envOfC qual (defScope st) s.heap.objs.size f (.ref c))) → sp vs H Q E →
      ∃ t, PSs (cxOf CX0 P w K mg base N qual (defScope st) f (.ref c) A outer s H E).nox (defBody st) t ∧ t { nx := fun _ H' => Q .non H', rt := Q } (start N vs) H) : FnOk P w K mg base CX0 (k + 1) f fd ps sp := by
  obtain ⟨oc, od, kV, doc, pm, an, ct, osl, rfl, lk, hcd⟩ := F.ex
  refine fn_of lk hcd S len fun A outer s H vs Q E hr hsp => ?_
  obtain ⟨t, h, q⟩ := hbody A outer s H vs Q E hr hsp
  exact ⟨t, h.nox, q⟩
theorem cal_of {nm : Str} {st : Stmt} {f : Addr} {fd : FuncData} {k : Nat} {ps : List Str} {sp : Sp} (F : Fun K nm nm st f fd) (g : mg nm = some (.ref f)) (b : Binds K fd ps []) (ok : FnOk P w K mg base CX0 k f fd ps sp) : Cal P w K mg base nm k ps sp :=
  ⟨f, fd, g, F.kp, b, ok⟩
end

/-! ### heaps -/
theorem ex_of_new {H H' : Hp} {p : Addr} {o : HO} (e : Ex H H') (h : H' p = none) : Ex H (upd H' p o) := e.trans (Ex.new h)
mutual
theorem Dp.ext {K : PySem.W.Frag} {H H' : Hp} (e : Ex H H') : ∀ (d : PyData) (v : V), Dp K H v d → Dp K H' v d
  | .none, _, h => by cases h; exact .non
  | .bool b, _, h => by cases h; exact .bl b
  | .int i, _, h => by cases h; exact .int i
  | .str x, _, h => by cases h; exact .str x
  | .list ds, _, h => by
    cases h with
    | lst h1 h2 => exact .lst (ex_l e h1) (DpAll.ext e ds _ h2)
  | .tuple ds, _, h => by
    cases h with
    | tup h1 h2 => exact .tup (ex_t e h1) (DpAll.ext e ds _ h2)
  | .dict _, _, h => by cases h
theorem DpAll.ext {K : PySem.W.Frag} {H H' : Hp} (e : Ex H H') : ∀ (ds : List PyData) (vs : List V), DpAll K H vs ds → DpAll K H' vs ds
  | [], _, h => by cases h; exact .nil
  | d :: ds, _, h => by
    cases h with
    | cons h1 h2 => exact .cons (Dp.ext e d _ h1) (DpAll.ext e ds _ h2)
end
theorem DpAll.app {K : PySem.W.Frag} {H : Hp} : ∀ {vs : List V} {ds : List PyData} {v : V} {d : PyData}, DpAll K H vs ds → Dp K H v d → DpAll K H (vs ++ [v]) (ds ++ [d])
  | [], _, _, _, h, h2 => by cases h; exact .cons h2 .nil
  | _ :: _, _, _, _, h, h2 => by
    cases h with
    | cons a b => exact .cons a (DpAll.app b h2)
theorem DpAll.len {K : PySem.W.Frag} {H : Hp} : ∀ {vs : List V} {ds : List PyData}, DpAll K H vs ds → vs.length = ds.length
  | [], _, h => by cases h; rfl
  | _ :: _, _, h => by
    cases h with
    | cons a b => exact congrArg (· + 1) (DpAll.len b)
theorem dpAll_ints {K : PySem.W.Frag} {H : Hp} : ∀ ns : List Int, DpAll K H (ns.map V.int) (ns.map PyData.int)
  | [] => .nil
  | n :: r => .cons (.int n) (dpAll_ints r)
theorem eqvAll_ints : ∀ xs ys : List Int, PyData.eqvAll (xs.map PyData.int) (ys.map PyData.int) = decide (xs = ys)
  | [], [] => by simp [PyData.eqvAll]
  | [], _ :: _ => by simp [PyData.eqvAll]
  | _ :: _, [] => by simp [PyData.eqvAll]
  | x :: xs, y :: ys => by
    simp only [List.map_cons, PyData.eqvAll, PyData.eqv, eqvAll_ints xs ys]
    by_cases h1 : x = y <;> by_cases h2 : xs = ys <;> simp [h1, h2]
theorem int_at {ns : List Int} {i : Nat} (h : i < ns.length) : (ns.map V.int)[i]? = some (.int (ns.getD i 0)) := by
  rw [List.getElem?_map, List.getElem?_eq_getElem h, List.getD_eq_getElem?_getD, List.getElem?_eq_getElem h]
  rfl
theorem atI_at {ns : List Int} {z : Int} {i : Nat} (e : z = (i : Int)) (h : i < ns.length) : atI (ns.map V.int) z = some (.int (ns.getD i 0)) := at_of e (int_at h)

/-! ### more readings, in short -/
section
variable {K : PySem.W.Frag} {σ : L2.St} {H H' : Hp} {ta tb te tx : TE} {t u : TT} {x y z v : V} {D : Ends} {tu tw tz : TS} {g : TG}
theorem rv_mod {i j : Int} (h : 0 < j) : RV (rI (fun _ j => 0 < j) fun i j => .int (i % j)) (.int i) (.int j) H (.int (i % j)) := rv_I h
theorem rv_div {i j : Int} (h : 0 < j) (h2 : j < 1073741824) : RV (rI CDiv fun i j => .int (i / j)) (.int i) (.int j) H (.int (i / j)) := rv_I ⟨h, h2⟩
theorem rv_mul {i j : Int} (h : -(2 ^ 64) < i ∧ i < 2 ^ 64) : RV (rI CMul fun i j => .int (i * j)) (.int i) (.int j) H (.int (i * j)) := rv_I (.inl h)
theorem rc_val {r : List V → Hp → VK → Prop} {vs : List V} (h : ∀ H1, Ex H H1 → ∀ Q : VK, Q z H1 → r vs H1 Q) : RC r vs H z := fun H1 e Q q => h H1 e Q (q H1 (Ex.refl H1))
theorem rc_int {i : Int} : RC (fun xs H Q => (∃ i, xs = [.int i] ∧ Q (.int i) H) ∨ ∃ k, xs = [.bl k] ∧ Q (.int (if k then 1 else 0)) H) [.int i] H (.int i) := rc_val fun _ _ _ q => .inl ⟨i, rfl, q⟩
theorem rc_len {a : Addr} {xs : List V} {r : List V → Hp → VK → Prop} (h : ∀ H1, Ex H H1 → ∀ Q : VK, Q (.int (xs.length : Int)) H1 → r [.ref a] H1 Q) : RC r [.ref a] H (.int (xs.length : Int)) := rc_val h
theorem ea1 (h : Ev ta σ H x) : EvA (tCons ta tNil) σ H [x] := ea_cons h ea_nil
theorem ea2 (h : Ev ta σ H x) (h2 : Ev tb σ H y) : EvA (tCons ta (tCons tb tNil)) σ H [x, y] := ea_cons h (ea1 h2)
theorem ea3 {tc : TE} (h : Ev ta σ H x) (h2 : Ev tb σ H y) (h3 : Ev tc σ H z) : EvA (tCons ta (tCons tb (tCons tc tNil))) σ H [x, y, z] := ea_cons h (ea2 h2 h3)
end
end KC
set_option Elab.async false
set_option linter.all false
set_option maxRecDepth 100000
set_option maxHeartbeats 4000000
namespace KC
open PySem PySem.Spec PyProof.Rows L2 GX Evl

/-- it gives data d -/
def EvD (K : PySem.W.Frag) (te : TE) (σ : L2.St) (H : Hp) (d : PyData) : Prop := ∀ H1, Ex H H1 → ∀ Q : VK, (∀ v H2, Ex H1 H2 → Dp K H2 v d → Q v H2) → te σ H1 Q
def EvDA (K : PySem.W.Frag) (ta : TA) (σ : L2.St) (H : Hp) (ds : List PyData) : Prop := ∀ H1, Ex H H1 → ∀ Q : List V → Hp → Prop, (∀ vs H2, Ex H1 H2 → DpAll K H2 vs ds → Q vs H2) → ta σ H1 Q
def RetD (K : PySem.W.Frag) (d : PyData) (H : Hp) (Q : VK) : Prop := ∀ v H2, Ex H H2 → Dp K H2 v d → Q v H2
def SpD (K : PySem.W.Frag) (sp : Sp) (vs : List V) (H : Hp) (d : PyData) : Prop := ∀ H1, Ex H H1 → ∀ Q : VK, (∀ v H2, Ex H1 H2 → Dp K H2 v d → Q v H2) → ∀ E : XK, sp vs H1 Q E
mutual
def noList : PyData → Bool
  | .list _ => false
  | .dict _ => false
  | .tuple ds => noListAll ds
  | _ => true
def noListAll : List PyData → Bool
  | [] => true
  | d :: r => noList d && noListAll r
end
theorem sqt_put {K : PySem.W.Frag} {H : Hp} {l a : Addr} {zs ys xs : List V} (h : SqT K H a xs) (hl : H l = some (.lst zs)) : SqT K (upd H l (.lst ys)) a xs := by
  rcases h with (h | ⟨o, h⟩) | h
  · exact .inl (.inl (by rw [upd_ne (fun e => by rw [e, hl] at h; cases h)]; exact h))
  · exact .inl (.inr ⟨o, by rw [upd_ne (fun e => by rw [e, hl] at h; cases h)]; exact h⟩)
  · exact .inr h
theorem sql_put {K : PySem.W.Frag} {H : Hp} {l a : Addr} {ys xs : List V} (h : SqL K H a xs) (hl : a ≠ l) : SqL K (upd H l (.lst ys)) a xs := by
  rcases h with (h | ⟨o, h⟩) | h
  · exact .inl (.inl (by rw [upd_ne hl]; exact h))
  · exact .inl (.inr ⟨o, by rw [upd_ne hl]; exact h⟩)
  · exact .inr h
mutual
theorem Dp.put {K : PySem.W.Frag} {H : Hp} {l : Addr} {zs ys : List V} (hl : H l = some (.lst zs)) : ∀ (d : PyData) (v : V), noList d = true → Dp K H v d → Dp K (upd H l (.lst ys)) v d
  | .none, _, _, h => by cases h; exact .non
  | .bool b, _, _, h => by cases h; exact .bl b
  | .int i, _, _, h => by cases h; exact .int i
  | .str x, _, _, h => by cases h; exact .str x
  | .list _, _, z, _ => by simp [noList] at z
  | .tuple ds, _, z, h => by
    cases h with
    | tup h1 h2 => exact .tup (sqt_put h1 hl) (DpAll.put hl ds _ (by simpa [noList] using z) h2)
  | .dict _, _, _, h => by cases h
theorem DpAll.put {K : PySem.W.Frag} {H : Hp} {l : Addr} {zs ys : List V} (hl : H l = some (.lst zs)) : ∀ (ds : List PyData) (vs : List V), noListAll ds = true → DpAll K H vs ds → DpAll K (upd H l (.lst ys)) vs ds
  | [], _, _, h => by cases h; exact .nil
  | d :: ds, _, z, h => by
    cases h with
    | cons h1 h2 =>
      simp only [noListAll, Bool.and_eq_true] at z
      exact .cons (Dp.put hl d _ z.1 h1) (DpAll.put hl ds _ z.2 h2)
end
theorem noListAll_map {α : Type} {f : α → PyData} (hf : ∀ a, noList (f a) = true) : ∀ xs : List α, noListAll (xs.map f) = true
  | [] => rfl
  | a :: r => by simp [noListAll, hf a, noListAll_map hf r]

section
variable {K : PySem.W.Frag} {σ : L2.St} {H H' : Hp} {ta tb te tx : TE} {t u : TT} {x y z v : V} {D : Ends} {tu tw tz : TS} {g : TG} {d d2 : PyData} {ds : List PyData}
theorem EvD.mono (e : Ex H H') (h : EvD K te σ H d) : EvD K te σ H' d := fun H1 a Q q => h H1 (e.trans a) Q q
theorem ed_int {i : Int} (h : Ev te σ H (.int i)) : EvD K te σ H (.int i) := fun H1 e Q q => h H1 e Q fun H2 e2 => q _ H2 e2 (.int i)
theorem ed_non (h : Ev te σ H .non) : EvD K te σ H .none := fun H1 e Q q => h H1 e Q fun H2 e2 => q _ H2 e2 .non
theorem ed_bl {b : Bool} (h : Ev te σ H (.bl b)) : EvD K te σ H (.bool b) := fun H1 e Q q => h H1 e Q fun H2 e2 => q _ H2 e2 (.bl b)
theorem ed_at (h : Ev te σ H v) (hd : Dp K H v d) : EvD K te σ H d := fun H1 e Q q => h H1 e Q fun H2 e2 => q _ H2 e2 (Dp.ext (e.trans e2) _ _ hd)
theorem eda_nil : EvDA K tNil σ H [] := fun H1 _ Q q => q [] H1 (Ex.refl H1) .nil
theorem eda_cons {tr : TA} (h : EvD K te σ H d) (hr : EvDA K tr σ H ds) : EvDA K (tCons te tr) σ H (d :: ds) := fun H1 e Q q =>
  h H1 e _ fun v H2 e2 hv => hr H2 (e.trans e2) _ fun vs H3 e3 hvs => q _ H3 (e2.trans e3) (.cons (Dp.ext e3 _ _ hv) hvs)
theorem ed_tup {ta : TA} (h : EvDA K ta σ H ds) (hl : ds.length ≤ 100000) : EvD K (tTup ta) σ H (.tuple ds) := fun H1 e Q q =>
  h H1 e _ fun vs H2 e2 hvs => ⟨sz_of (by rw [DpAll.len hvs]; exact hl), fun p hp => q _ _ (e2.trans (Ex.new hp)) (.tup (.inl (.inl upd_same)) (DpAll.ext (Ex.new hp) _ _ hvs))⟩
theorem ed_lst {ta : TA} (h : EvDA K ta σ H ds) (hl : ds.length ≤ 100000) : EvD K (tLst ta) σ H (.list ds) := fun H1 e Q q =>
  h H1 e _ fun vs H2 e2 hvs => ⟨sz_of (by rw [DpAll.len hvs]; exact hl), fun p hp => q _ _ (e2.trans (Ex.new hp)) (.lst (.inl (.inl upd_same)) (DpAll.ext (Ex.new hp) _ _ hvs))⟩
theorem ed_call {sp : Sp} {dvs vs : List V} {E : XK} {ta : TA} (h : EvA ta σ H vs) (hs : SpD K sp (vs ++ dvs) H d) : EvD K (tCall sp dvs E ta) σ H d := fun H1 e Q q =>
  h H1 e _ fun H2 e2 => hs H2 (e.trans e2) Q (fun v H3 e3 hv => q v H3 (e2.trans e3) hv) E
/-- a list of ints as data -/
theorem ed_listI {ns : List Int} (h : EvL te σ H (ns.map V.int)) : EvD K te σ H (.list (ns.map PyData.int)) := fun H1 e Q q =>
  h H1 e Q fun p H2 _ e2 hp => q _ H2 e2 (.lst (.inl (.inl hp)) (dpAll_ints ns))
theorem dp_listI {l : Addr} {ns : List Int} (h : SqL K H l (ns.map V.int)) : Dp K H (.ref l) (.list (ns.map PyData.int)) := .lst h (dpAll_ints ns)
theorem s_retD (h : EvD K te σ H d) (k : ∀ v H1, Ex H H1 → Dp K H1 v d → D.rt v H1) : tRet te D σ H := h H (Ex.refl H) _ k
theorem s_asgD {i : Nat} (h : EvD K te σ H d) (k : ∀ v H1, Ex H H1 → Dp K H1 v d → D.nx (σ.set i (some v)) H1) : tAsg te (gName i) D σ H := h H (Ex.refl H) _ k
theorem q_asgD {i : Nat} (h : EvD K te σ H d) (k : ∀ v H1, Ex H H1 → Dp K H1 v d → tz D (σ.set i (some v)) H1) : tSeq (tAsg te (gName i)) tz D σ H := s_asgD (D := { D with nx := tz D }) h k
/-- xs.append(data) -/
theorem s_appD {l : Addr} {xs : List V} (hl : H l = some (.lst xs)) (ha : Ev ta σ H (.ref l)) (h : EvD K te σ H d) (hz : xs.length < 100000) (k : ∀ v H1, Ex H H1 → Dp K H1 v d → D.nx σ (upd H1 l (.lst (xs ++ [v])))) :
    tDrop (tBM K "list" rAppend ta (tCons te tNil)) D σ H := ha H (Ex.refl H) _ fun H1 e1 =>
  ⟨Or.inl ⟨rfl, xs, sq_of (e1 l _ hl)⟩, h H1 e1 _ fun v H2 e2 hv => ⟨l, xs, v, rfl, rfl, e2 l _ (e1 l _ hl), sz_lt hz, k v H2 (e1.trans e2) hv⟩⟩
/-- data equal, not equal -/
theorem ev_eqD (ha : EvD K ta σ H d) (hb : EvD K tb σ H d2) (h1 : SeqAt.shaped d = true) (h2 : SeqAt.shaped d2 = true) : Ev (tOp (rEqD K) ta tb) σ H (.bl (PyData.eqv d d2)) := fun H1 e Q q =>
  ha H1 e _ fun v H2 e2 hv => hb H2 (e.trans e2) _ fun u H3 e3 hu => ⟨d, d2, Dp.ext e3 _ _ hv, hu, h1, h2, q H3 (e2.trans e3)⟩
theorem ev_neD (ha : EvD K ta σ H d) (hb : EvD K tb σ H d2) (h1 : SeqAt.shaped d = true) (h2 : SeqAt.shaped d2 = true) : Ev (tOp (rNeD K) ta tb) σ H (.bl (!PyData.eqv d d2)) := fun H1 e Q q =>
  ha H1 e _ fun v H2 e2 hv => hb H2 (e.trans e2) _ fun u H3 e3 hu => ⟨d, d2, Dp.ext e3 _ _ hv, hu, h1, h2, q H3 (e2.trans e3)⟩
theorem el_cat {xs ys : List V} {b : Addr} (ha : EvL ta σ H xs) (hb : Ev tb σ H (.ref b)) (h : H b = some (.lst ys)) (hz : xs.length + ys.length ≤ 100000) : EvL (tOp rCat ta tb) σ H (xs ++ ys) := fun H1 e Q q =>
  ha H1 e _ fun p H2 np e2 hp => hb H2 (e.trans e2) _ fun H3 e3 => ⟨p, b, xs, ys, rfl, rfl, e3 p _ hp, ((e.trans e2).trans e3) b _ h, sz_of hz, fun p2 hp2 => q p2 _ (fresh_back (e2.trans e3) hp2) ((e2.trans e3).trans (Ex.new hp2)) upd_same⟩
theorem el_cat2 {xs ys : List V} {a b : Addr} (ha : Ev ta σ H (.ref a)) (h0 : H a = some (.lst xs)) (hb : Ev tb σ H (.ref b)) (h : H b = some (.lst ys)) (hz : xs.length + ys.length ≤ 100000) : EvL (tOp rCat ta tb) σ H (xs ++ ys) := fun H1 e Q q =>
  ha H1 e _ fun H2 e2 => hb H2 (e.trans e2) _ fun H3 e3 => ⟨a, b, xs, ys, rfl, rfl, ((e.trans e2).trans e3) a _ h0, ((e.trans e2).trans e3) b _ h, sz_of hz, fun p2 hp2 => q p2 _ (fresh_back (e2.trans e3) hp2) ((e2.trans e3).trans (Ex.new hp2)) upd_same⟩
theorem el_rep {xs : List V} {i : Int} (ha : EvL ta σ H xs) (hb : Ev tb σ H (.int i)) (h1 : 0 ≤ i ∧ i ≤ 10000) (hz : xs.length ≤ 10) : EvL (tOp rRep ta tb) σ H (List.replicate i.toNat xs).flatten := fun H1 e Q q =>
  ha H1 e _ fun p H2 np e2 hp => hb H2 (e.trans e2) _ fun H3 e3 => ⟨p, i, xs, rfl, rfl, e3 p _ hp, by omega, by omega, sz_of (Nat.le_trans (Nat.mul_le_mul hz (show i.toNat ≤ 10000 by omega)) (by decide)), fun p2 hp2 => q p2 _ (fresh_back (e2.trans e3) hp2) ((e2.trans e3).trans (Ex.new hp2)) upd_same⟩
theorem el_rev {xs : List V} {a : Addr} (ha : Ev ta σ H (.ref a)) (h : SqL K H a xs) : EvL (tRevL K ta) σ H xs.reverse := fun H1 e Q q =>
  ha H1 e _ fun H2 e2 => ⟨a, xs, rfl, ex_l (e.trans e2) h, fun p hp => q p _ (fresh_back e2 hp) (e2.trans (Ex.new hp)) upd_same⟩
theorem el_if {b : Bool} {xs : List V} (h : EvT t σ H b) (h1 : b = true → EvL ta σ H xs) (h2 : b = false → EvL tb σ H xs) : EvL (tIf t ta tb) σ H xs := fun H1 e Q q => h H1 e _ fun H2 e2 => by
  cases b with
  | true => exact h1 rfl H2 (e.trans e2) Q fun p H3 hp e3 => q p H3 (fresh_back e2 hp) (e2.trans e3)
  | false => exact h2 rfl H2 (e.trans e2) Q fun p H3 hp e3 => q p H3 (fresh_back e2 hp) (e2.trans e3)
theorem rv_shl {i j : Int} (h : 0 ≤ j ∧ j ≤ 1000000 ∧ i.natAbs < 2 ^ 64) : RV (rI CPow fun i j => .int (i * 2 ^ j.toNat)) (.int i) (.int j) H (.int (i * 2 ^ j.toNat)) := rv_I h
theorem rv_shr {i j : Int} (h : 0 ≤ j) : RV (rI (fun _ j => 0 ≤ j) fun i j => .int (i / 2 ^ j.toNat)) (.int i) (.int j) H (.int (i / 2 ^ j.toNat)) := rv_I h
theorem rc_min {i j : Int} : RC (fun xs H Q => ∃ i j, xs = [.int i, .int j] ∧ Q (.int (if j < i then j else i)) H) [.int i, .int j] H (.int (if j < i then j else i)) := rc_val fun _ _ _ q => ⟨i, j, rfl, q⟩
theorem rc_max {i j : Int} : RC (fun xs H Q => ∃ i j, xs = [.int i, .int j] ∧ Q (.int (if j > i then j else i)) H) [.int i, .int j] H (.int (if j > i then j else i)) := rc_val fun _ _ _ q => ⟨i, j, rfl, q⟩
theorem ev_min {i j : Int} (h : Ev ta σ H (.int i)) (h2 : Ev tb σ H (.int j)) : Ev (tCB (fun xs H Q => ∃ i j, xs = [.int i, .int j] ∧ Q (.int (if j < i then j else i)) H) (tCons ta (tCons tb tNil))) σ H (.int (if j < i then j else i)) := ev_cb (ea2 h h2) rc_min
theorem ev_add {i j : Int} (h : Ev ta σ H (.int i)) (h2 : Ev tb σ H (.int j)) : Ev (tOp (rI0 fun i j => .int (i + j)) ta tb) σ H (.int (i + j)) := ev_op h h2 rv_I0
theorem ev_sub {i j : Int} (h : Ev ta σ H (.int i)) (h2 : Ev tb σ H (.int j)) : Ev (tOp (rI0 fun i j => .int (i - j)) ta tb) σ H (.int (i - j)) := ev_op h h2 rv_I0
theorem ev_lt {i j : Int} (h : Ev ta σ H (.int i)) (h2 : Ev tb σ H (.int j)) : Ev (tOp (rI0 fun i j => .bl (decide (i < j))) ta tb) σ H (.bl (decide (i < j))) := ev_op h h2 rv_I0
theorem ev_eq {i j : Int} (h : Ev ta σ H (.int i)) (h2 : Ev tb σ H (.int j)) : Ev (tOp rEq ta tb) σ H (.bl (decide (i = j))) := by
  have q := ev_op h h2 (rv_eq (x := .int i) (y := .int j) rfl)
  have e : decide ((V.int i) = V.int j) = decide (i = j) := by
    by_cases z : i = j
    · subst z; simp
    · rw [decide_eq_false z, decide_eq_false (fun q => z (V.int.inj q))]
  rw [e] at q
  exact q
theorem ev_ne {i j : Int} (h : Ev ta σ H (.int i)) (h2 : Ev tb σ H (.int j)) : Ev (tOp rNe ta tb) σ H (.bl (!decide (i = j))) := by
  have q := ev_op h h2 (rv_ne (x := .int i) (y := .int j) rfl)
  have e : decide ((V.int i) = V.int j) = decide (i = j) := by
    by_cases z : i = j
    · subst z; simp
    · rw [decide_eq_false z, decide_eq_false (fun q => z (V.int.inj q))]
  rw [e] at q
  exact q
end
end KC
set_option Elab.async false
set_option linter.all false
set_option maxRecDepth 100000
set_option maxHeartbeats 4000000
namespace KC
open PySem PySem.Spec PyProof.Rows L2 GX Evl
def capC (N N' : List Str) (cm : List (Option Nat)) (scope sc : Scope) : Bool :=
  decide (scope.kind = .function) && !scope.isCoroutine && (scope.names.all fun y => decide (y.2 ≠ .cell)) && decide (scope.names.lookup (".0" : Str) = some NameKind.local) &&
    (scope.names.all fun y => !decide (y.2 = .free) || (decide (sc.names.lookup y.1 = some .cell) || decide (sc.names.lookup y.1 = some .free))) && decide (cm.length = N'.length) &&
    ((cm.zip N').all fun p => match p.1 with | some j => (N[j]? == some p.2) && (scope.names.lookup p.2 == some .free) | none => true)
theorem capOk_by {N N' : List Str} {cm : List (Option Nat)} {scope sc : Scope} (h : capC N N' cm scope sc = true) : CapOk N N' cm scope sc := by
  unfold capC at h
  simp only [Bool.and_eq_true, List.all_eq_true, decide_eq_true_eq, Bool.not_eq_true', Bool.or_eq_true, decide_eq_false_iff_not] at h
  obtain ⟨⟨⟨⟨⟨⟨h1, h2⟩, h3⟩, h4⟩, h5⟩, h6⟩, h7⟩ := h
  refine ⟨h1, h2, h3, h4, fun y hy e => ?_, h6, ?_⟩
  · rcases h5 y hy with z | z
    · exact absurd e z
    · exact z
  · rw [List.all_eq_true]
    intro p hp
    have := h7 p hp
    revert this
    cases p.1 <;> simp
theorem ix_listK {X : Cx} {K : PySem.W.Frag} (h : X.K = K) : IxR X (rIxL K) := by
  subst h
  exact ix_list
theorem ix_tupK {X : Cx} {K : PySem.W.Frag} (h : X.K = K) : IxR X (rIxT K) := by
  subst h
  exact ix_tup
theorem canLayAll0_map {α : Type} {f : α → PyData} (h : ∀ a, (f a).canLay0 = true) : ∀ xs : List α, PyData.canLayAll0 (xs.map f) = true
  | [] => by simp [PyData.canLayAll0]
  | a :: r => by simp [PyData.canLayAll0, h a, canLayAll0_map h r]
theorem depthAll_map {α : Type} {f : α → PyData} {n : Nat} (h : ∀ a, (f a).depth ≤ n) : ∀ xs : List α, PyData.depthAll (xs.map f) ≤ n
  | [] => by simp [PyData.depthAll]
  | a :: r => by
    have h1 := depthAll_map h r
    have h2 := h a
    simp only [List.map_cons, PyData.depthAll]
    omega
theorem shaped_list {α : Type} {f : α → PyData} {n : Nat} (hn : n ≤ 60) (h1 : ∀ a, (f a).canLay0 = true) (h2 : ∀ a, (f a).depth ≤ n) (xs : List α) : SeqAt.shaped (.list (xs.map f)) = true := by
  have h3 := depthAll_map h2 xs
  have h4 : PyData.depth (.list (xs.map f)) ≤ 64 := by simp only [PyData.depth]; omega
  show (PyData.canLay0 (.list (xs.map f)) && decide (PyData.depth (.list (xs.map f)) ≤ 64)) = true
  rw [Bool.and_eq_true]
  exact ⟨by simp only [PyData.canLay0]; exact canLayAll0_map h1 xs, decide_eq_true h4⟩
theorem shaped_ints (ns : List Int) : SeqAt.shaped (.list (ns.map PyData.int)) = true := shaped_list (n := 1) (by decide) (fun a => by simp [PyData.canLay0]) (fun a => by simp [PyData.depth]) ns
theorem eqvAll_map {α : Type} {f : α → PyData} (h : ∀ a, PyData.eqv (f a) (f a) = true) : ∀ xs : List α, PyData.eqvAll (xs.map f) (xs.map f) = true
  | [] => by simp [PyData.eqvAll]
  | a :: r => by simp [PyData.eqvAll, h a, eqvAll_map h r]
theorem eqv_list {α : Type} {f : α → PyData} (h : ∀ a, PyData.eqv (f a) (f a) = true) (xs : List α) : PyData.eqv (.list (xs.map f)) (.list (xs.map f)) = true := by
  simp only [PyData.eqv]
  exact eqvAll_map h xs
theorem eqv_ints (xs : List Int) : PyData.eqv (.list (xs.map PyData.int)) (.list (xs.map PyData.int)) = true := eqv_list (fun a => by simp [PyData.eqv]) xs
section
variable {K : PySem.W.Frag} {σ : L2.St} {H H' : Hp} {ta tb tc te tx : TE}
theorem ev_sumL {ns : List Int} (h : EvL te σ H (ns.map V.int)) : Ev (tCB (rSum K) (tCons te tNil)) σ H (.int ns.sum) := fun H1 e Q q =>
  h H1 e _ fun p H2 _ e2 hp => ⟨p, ns, rfl, sq_of hp, q H2 e2⟩
theorem ev_sumLa {ns : List Int} {a : Addr} (h : Ev te σ H (.ref a)) (hs : SqL K H a (ns.map V.int)) : Ev (tCB (rSum K) (tCons te tNil)) σ H (.int ns.sum) := fun H1 e Q q =>
  h H1 e _ fun H2 e2 => ⟨a, ns, rfl, ex_l (e.trans e2) hs, q H2 e2⟩
theorem et_yes : EvT tYes σ H true := fun H1 _ _ q => q H1 (Ex.refl H1)
/-- list(xs) -/
theorem el_listOf {p : Addr} {xs : List V} (ha : Ev ta σ H (.ref p)) (h : SqL K H p xs) : EvL (tCB (fun xs H Q => ∃ p ys, xs = [.ref p] ∧ (SqL K H p ys ∨ SqT K H p ys) ∧ ∀ l, H l = none → Q (.ref l) (upd H l (.lst ys))) (tCons ta tNil)) σ H xs := fun H1 e Q q =>
  ha H1 e _ fun H2 e2 => ⟨p, xs, rfl, .inl (ex_l (e.trans e2) h), fun l hl => q l _ (fresh_back e2 hl) (e2.trans (Ex.new hl)) upd_same⟩
/-- a call whose third argument is a new tuple -/
theorem ed_call3U {sp : Sp} {E : XK} {x y : V} {xs : List V} {d : PyData} (h1 : Ev ta σ H x) (h2 : Ev tb σ H y) (h3 : EvU tc σ H xs) (hs : ∀ p H1, Ex H H1 → H1 p = some (.tup xs) → SpD K sp [x, y, .ref p] H1 d) : EvD K (tCall sp [] E (tCons ta (tCons tb (tCons tc tNil)))) σ H d := fun H1 e Q q =>
  h1 H1 e _ fun H2 e2 => h2 H2 (e.trans e2) _ fun H3 e3 => h3 H3 ((e.trans e2).trans e3) _ fun p H4 hp e4 h4 =>
    hs p H4 (((e.trans e2).trans e3).trans e4) h4 H4 (Ex.refl _) Q (fun v H5 e5 hv => q v H5 (((e2.trans e3).trans e4).trans e5) hv) E
end
end KC
set_option Elab.async false
set_option linter.all false
set_option maxRecDepth 100000
set_option maxHeartbeats 4000000
namespace KC
open PySem PySem.Spec PyProof.Rows L2 StX GX Evl
section
variable {K : PySem.W.Frag} {σ : L2.St} {H H' : Hp} {ta tb tc te tx tl : TE} {D : Ends} {tz : TS}
theorem tt_yes {A B : Hp → Prop} (h : A H) : tYes σ H (fun b H3 => if b = true then A H3 else B H3) := by
  show (if true = true then A H else B H)
  rw [if_pos rfl]
  exact h
/-- a < b < c -/
theorem ev_chain {r r2 : R2} {x y z : V} {b1 b2 : Bool} (h1 : Ev ta σ H x) (h2 : Ev tb σ H y) (h3 : RV r x y H (.bl b1)) (h4 : b1 = true → Ev tc σ H z) (h5 : b1 = true → RV r2 y z H (.bl b2)) : Ev (tChain r r2 ta tb tc) σ H (.bl (b1 && b2)) := fun H1 e Q q =>
  h1 H1 e _ fun H2 e2 => h2 H2 (e.trans e2) _ fun H3 e3 => h3 H3 ((e.trans e2).trans e3) _ fun H4 e4 => by
    have e14 := (e2.trans e3).trans e4
    refine ⟨b1, rfl, ?_⟩
    cases b1 with
    | false =>
      rw [if_neg Bool.false_ne_true]
      exact q H4 e14
    | true =>
      rw [if_pos rfl]
      exact h4 rfl H4 (e.trans e14) _ fun H5 e5 => h5 rfl H5 ((e.trans e14).trans e5) _ fun H6 e6 => q H6 ((e14.trans e5).trans e6)
/-- max([c, *xs]) where c is not below any -/
theorem ev_maxStar {c : Int} {l : Addr} {ls : List Int} (h : Ev ta σ H (.int c)) (h2 : Ev tb σ H (.ref l)) (hs : SqL K H l (ls.map V.int)) (hb : ∀ x ∈ ls, x ≤ c) (hz : ls.length ≤ 1000) :
    Ev (tCB (rMax K) (tCons (tLst (tCons ta (tStar K tb tNil))) tNil)) σ H (.int c) := fun H1 e Q q =>
  h H1 e _ fun H2 e2 => h2 H2 (e.trans e2) _ fun H3 e3 => by
    refine ⟨l, ls.map V.int, rfl, .inr (ex_l ((e.trans e2).trans e3) hs), sz_of ?_, fun p hp => ⟨p, c :: ls, rfl, sq_of ?_, Nat.succ_pos _, fun m hm hall => ?_⟩⟩
    · simp
      omega
    · rw [upd_same, List.append_nil]
      rfl
    · have h1 := hall c List.mem_cons_self
      have h3 : m ≤ c := by
        rcases List.mem_cons.mp hm with z | z
        · omega
        · exact hb m z
      have h4 : m = c := by omega
      subst h4
      exact q _ ((e2.trans e3).trans (Ex.new hp))
theorem max_of : ∀ ls : List Int, ls ≠ [] → ∃ m, m ∈ ls ∧ ∀ y ∈ ls, y ≤ m
  | [], h => absurd rfl h
  | [x], _ => ⟨x, List.mem_cons_self, fun y hy => by rw [List.mem_singleton.mp hy]; exact Int.le_refl _⟩
  | x :: y :: r, _ => by
    obtain ⟨m, h1, h2⟩ := max_of (y :: r) (by simp)
    by_cases e : m ≤ x
    · refine ⟨x, List.mem_cons_self, fun z hz => ?_⟩
      rcases List.mem_cons.mp hz with h | h
      · omega
      · have := h2 z h; omega
    · refine ⟨m, List.mem_cons_of_mem _ h1, fun z hz => ?_⟩
      rcases List.mem_cons.mp hz with h | h
      · omega
      · exact h2 z h
/-- max(xs) -/
theorem ev_maxL {l : Addr} {ls : List Int} {m : Int} (h : Ev ta σ H (.ref l)) (hs : SqL K H l (ls.map V.int)) (hm : m ∈ ls) (hall : ∀ y ∈ ls, y ≤ m) : Ev (tCB (rMax K) (tCons ta tNil)) σ H (.int m) := fun H1 e Q q =>
  h H1 e _ fun H2 e2 => ⟨l, ls, rfl, ex_l (e.trans e2) hs, List.length_pos_of_mem hm, fun n hn hal => by
    have h1 := hal m hm
    have h2 := hall n hn
    have : n = m := by omega
    subst this
    exact q H2 e2⟩
theorem sum_bd : ∀ (l : List Int) (B : Int), (∀ x ∈ l, 0 ≤ x ∧ x ≤ B) → 0 ≤ l.sum ∧ l.sum ≤ l.length * B
  | [], B, _ => by simp
  | x :: r, B, h => by
    have h1 := sum_bd r B fun y hy => h y (List.mem_cons_of_mem _ hy)
    have h2 := h x List.mem_cons_self
    have e : ((x :: r).length : Int) * B = r.length * B + B := by
      rw [List.length_cons, Int.natCast_add, Int.add_mul]
      simp
    rw [List.sum_cons, e]
    omega
/-- sum(f(x) for x in xs if b(x)) -/
theorem ev_sumLF {tt : TT} {Pt l : Addr} {cm : List (Option Nat)} {own : List Nat} {xs : List Int} (f : Int → Int) (b : Int → Bool) (h : Ev tl σ H (.ref l)) (hx : SqL K H l (xs.map V.int)) (hn : xs.length ≤ 1000) (tab : H Pt = some (TabX Pt))
    (hf : ∀ x ∈ xs, 0 ≤ f x ∧ f x ≤ 2 ^ 40) (hw : ∀ x, wipe ((captS cm σ).set 0 (some x)) own = captS cm σ) (ht : ∀ x ∈ xs, ∀ H1, Ex H H1 → EvT tt ((captS cm σ).set 0 (some (.int x))) H1 (b x))
    (he : ∀ x ∈ xs, b x = true → ∀ H1, Ex H H1 → Ev te ((captS cm σ).set 0 (some (.int x))) H1 (.int (f x))) :
    Ev (tSumG (tGx Pt (iList K tl) (gName 0) tt te cm own)) σ H (.int ((xs.filter b).map f).sum) := fun H1 e Q q =>
  h H1 e _ fun H3 e13 => by
    have e03 := e.trans e13
    have hxl : (xs.map V.int).length = xs.length := List.length_map _
    refine ⟨l, rfl, ⟨_, ex_l e03 hx⟩, e03 Pt _ tab, fun i m zs H' => m + i = xs.length ∧ Ex H3 H' ∧ zs = (((xs.take i).filter b).map f).map V.int, ⟨xs.length, by omega, Ex.refl _, rfl⟩, ?_⟩
    rintro i m zs H' ⟨hm, e4, rfl⟩
    have e04 := e03.trans e4
    by_cases hi : i < xs.length
    · right
      refine ⟨⟨_, _, ex_l e04 hx, int_at hi⟩, fun zs H5 => (m - 1) + (i + 1) = xs.length ∧ Ex H3 H5 ∧ zs = (((xs.take (i + 1)).filter b).map f).map V.int, fun zs H5 q => ⟨m - 1, by omega, q⟩, ?_⟩
      rintro v H5 ⟨rfl, hx1⟩
      have ex1 := (Option.some.inj ((int_at hi).symm.trans (hx1 _ (ex_l e04 hx)))).symm
      subst ex1
      have hxi : xs.getD i 0 = xs[i] := by rw [List.getD_eq_getElem?_getD, List.getElem?_eq_getElem hi] <;> rfl
      have hmem : xs.getD i 0 ∈ xs := by rw [hxi]; exact List.getElem_mem hi
      have htk : xs.take (i + 1) = xs.take i ++ [xs.getD i 0] := by rw [hxi]; exact (List.take_append_getElem hi).symm
      refine ⟨hw _, ht _ hmem _ e04 _ (Ex.refl _) _ fun H6 e6 => ?_⟩
      cases hb : b (xs.getD i 0) with
      | false =>
        rw [if_neg Bool.false_ne_true]
        refine ⟨by omega, e4.trans e6, ?_⟩
        rw [htk, List.filter_append, List.filter_cons, if_neg (by rw [hb]; decide), List.filter_nil, List.append_nil]
      | true =>
        rw [if_pos rfl]
        refine he _ hmem hb _ (e04.trans e6) _ (Ex.refl _) _ fun H7 e7 => ?_
        have hall : ∀ y ∈ ((xs.take i).filter b).map f, 0 ≤ y ∧ y ≤ 2 ^ 40 := fun y hy => by
          obtain ⟨x, hx2, rfl⟩ := List.mem_map.mp hy
          exact hf x (List.mem_of_mem_take (List.mem_filter.mp hx2).1)
        have hb1 := sum_bd _ _ hall
        have hb2 := hf _ hmem
        have hlen : (((xs.take i).filter b).map f).length ≤ i := by
          rw [List.length_map]
          exact Nat.le_trans (List.length_filter_le _ _) (by rw [List.length_take]; omega)
        have hB : ((((xs.take i).filter b).map f).length : Int) * 2 ^ 40 ≤ 1000 * 2 ^ 40 := by omega
        refine ⟨sz_lt (by rw [List.length_map]; omega), ⟨f _, rfl, ⟨by omega, by omega⟩, ?_⟩, by omega, (e4.trans e6).trans e7, ?_⟩
        · rw [vsum_ints]
          exact ⟨by omega, by omega⟩
        · rw [htk, List.filter_append, List.filter_cons, if_pos hb, List.filter_nil, List.map_append, List.map_append]
          rfl
    · left
      have hin : i = xs.length := by omega
      subst hin
      refine ⟨⟨_, ex_l e04 hx, by rw [hxl]; exact Nat.le_refl _⟩, ?_⟩
      show Q (.int (vsum _)) H'
      rw [vsum_ints, List.take_length]
      exact q H' (e13.trans e4)
/-- any(b(x) for x in xs) -/
theorem ev_anyL {Pt l : Addr} {cm : List (Option Nat)} {own : List Nat} {xs : List Int} (b : Int → Bool) (h : Ev tl σ H (.ref l)) (hx : SqL K H l (xs.map V.int)) (hn : xs.length ≤ 1000) (tab : H Pt = some (TabX Pt))
    (hw : ∀ x, wipe ((captS cm σ).set 0 (some x)) own = captS cm σ) (he : ∀ x ∈ xs, ∀ H1, Ex H H1 → Ev te ((captS cm σ).set 0 (some (.int x))) H1 (.bl (b x))) :
    Ev (tAnyG (tGx Pt (iList K tl) (gName 0) tYes te cm own)) σ H (.bl (xs.any b)) := fun H1 e Q q =>
  h H1 e _ fun H3 e13 => by
    have e03 := e.trans e13
    have hxl : (xs.map V.int).length = xs.length := List.length_map _
    refine ⟨l, rfl, ⟨_, ex_l e03 hx⟩, e03 Pt _ tab, fun i m zs H' => m + i = xs.length ∧ Ex H3 H' ∧ zs = (xs.take i).map fun x => V.bl (b x), ⟨xs.length, by omega, Ex.refl _, rfl⟩, ?_⟩
    rintro i m zs H' ⟨hm, e4, rfl⟩
    have e04 := e03.trans e4
    by_cases hi : i < xs.length
    · right
      refine ⟨⟨_, _, ex_l e04 hx, int_at hi⟩, fun zs H5 => (m - 1) + (i + 1) = xs.length ∧ Ex H3 H5 ∧ zs = (xs.take (i + 1)).map fun x => V.bl (b x), fun zs H5 q => ⟨m - 1, by omega, q⟩, ?_⟩
      rintro v H5 ⟨rfl, hx1⟩
      have ex1 := (Option.some.inj ((int_at hi).symm.trans (hx1 _ (ex_l e04 hx)))).symm
      subst ex1
      have hxi : xs.getD i 0 = xs[i] := by rw [List.getD_eq_getElem?_getD, List.getElem?_eq_getElem hi] <;> rfl
      have hmem : xs.getD i 0 ∈ xs := by rw [hxi]; exact List.getElem_mem hi
      have htk : xs.take (i + 1) = xs.take i ++ [xs.getD i 0] := by rw [hxi]; exact (List.take_append_getElem hi).symm
      refine ⟨hw _, tt_yes ?_⟩
      refine he _ hmem _ e04 _ (Ex.refl _) _ fun H7 e7 => ?_
      have hyes : b (xs.getD i 0) = true → xs.any b = true := fun z => List.any_eq_true.mpr ⟨_, hmem, z⟩
      refine ⟨sz_lt (by rw [List.length_map, List.length_take]; omega), ⟨_, rfl, fun z => ?_⟩, by omega, e4.trans e7, ?_⟩
      · have := hyes z
        rw [← this]
        exact q _ ((e13.trans e4).trans e7)
      · rw [htk, List.map_append]
        rfl
    · left
      have hin : i = xs.length := by omega
      subst hin
      refine ⟨⟨_, ex_l e04 hx, by rw [hxl]; exact Nat.le_refl _⟩, fun hno => ?_⟩
      rw [List.take_length] at hno
      have hr : xs.any b = false := by
        rw [List.any_eq_false]
        intro x hx2 hb
        exact hno _ (List.mem_map.mpr ⟨x, hx2, rfl⟩) (by rw [hb])
      rw [← hr]
      exact q H' (e13.trans e4)
end
end KC
set_option Elab.async false
set_option linter.all false
set_option maxRecDepth 100000
set_option maxHeartbeats 4000000
/-! Pairs (a key, a symbol) in a list, sorted. -/
namespace KC
open PySem PySem.Spec PyProof.Rows L2 StX GX Evl
def PrG (key : Nat → Int) (H : Hp) (ys : List V) (o : List Nat) : Prop := ys.length = o.length ∧ ∀ (j s : Nat), o[j]? = some s → ∃ t, ys[j]? = some (.ref t) ∧ H t = some (.tup [.int (key s), .int (s : Int)])
section
variable {key : Nat → Int} {H H' : Hp} {ys zs : List V} {o : List Nat}
theorem PrG.nil : PrG key H [] [] := ⟨rfl, fun j s h => by simp at h⟩
theorem PrG.ext (e : Ex H H') (h : PrG key H ys o) : PrG key H' ys o := ⟨h.1, fun j s hj => by
  obtain ⟨t, h1, h2⟩ := h.2 j s hj
  exact ⟨t, h1, e t _ h2⟩⟩
theorem PrG.put {p : Addr} {us ws : List V} (hp : H p = some (.lst us)) (h : PrG key H ys o) : PrG key (upd H p (.lst ws)) ys o := ⟨h.1, fun j s hj => by
  obtain ⟨t, h1, h2⟩ := h.2 j s hj
  exact ⟨t, h1, by rw [upd_ne (fun z => by rw [z, hp] at h2; cases h2)]; exact h2⟩⟩
theorem PrG.add {t : Addr} {s : Nat} (h : PrG key H ys o) (ht : H t = some (.tup [.int (key s), .int (s : Int)])) : PrG key H (ys ++ [.ref t]) (o ++ [s]) := by
  refine ⟨by rw [List.length_append, List.length_append, h.1] <;> rfl, fun j u hj => ?_⟩
  by_cases e : j < o.length
  · rw [List.getElem?_append_left e] at hj
    obtain ⟨w, h1, h2⟩ := h.2 j u hj
    exact ⟨w, by rw [List.getElem?_append_left (by rw [h.1]; exact e)]; exact h1, h2⟩
  · rw [List.getElem?_append_right (by omega)] at hj
    have hj0 : j - o.length = 0 := by
      have := (List.getElem?_eq_some_iff.mp hj).1
      simp at this
      omega
    rw [hj0] at hj
    have hu : s = u := by simpa using hj
    subst hu
    exact ⟨t, by rw [List.getElem?_append_right (by rw [h.1]; omega), h.1, hj0]; rfl, ht⟩
def keyOf (H : Hp) : V → Int × Int
  | .ref t => match H t with
    | some (.tup [.int a, .int b]) => (a, b)
    | _ => (0, 0)
  | _ => (0, 0)
theorem keyOf_tup {t : Addr} {a b : Int} (h : H t = some (.tup [.int a, .int b])) : keyOf H (.ref t) = (a, b) := by
  show (match H t with | some (.tup [.int a, .int b]) => (a, b) | _ => ((0 : Int), (0 : Int))) = _
  rw [h]
def symOf (H : Hp) (z : V) : Nat := (keyOf H z).2.toNat
theorem PrG.mem (h : PrG key H ys o) {z : V} (hz : z ∈ ys) : ∃ s t, s ∈ o ∧ z = .ref t ∧ H t = some (.tup [.int (key s), .int (s : Int)]) ∧ symOf H z = s := by
  obtain ⟨j, hj⟩ := List.mem_iff_getElem?.mp hz
  have hjl : j < o.length := by rw [← h.1]; exact (List.getElem?_eq_some_iff.mp hj).1
  obtain ⟨t, h1, h2⟩ := h.2 j _ (List.getElem?_eq_getElem hjl)
  rw [hj] at h1
  have e := Option.some.inj h1
  subst e
  exact ⟨_, t, List.getElem_mem hjl, rfl, h2, by unfold symOf; rw [keyOf_tup h2]; simp⟩
theorem PrG.syms (h : PrG key H ys o) : ys.map (symOf H) = o := by
  refine List.ext_getElem? fun j => ?_
  rw [List.getElem?_map]
  by_cases hj : j < o.length
  · obtain ⟨t, h1, h2⟩ := h.2 j _ (List.getElem?_eq_getElem hj)
    rw [h1, List.getElem?_eq_getElem hj]
    show some (symOf H (.ref t)) = _
    unfold symOf
    rw [keyOf_tup h2]
    simp
  · rw [List.getElem?_eq_none (by rw [h.1]; omega), List.getElem?_eq_none (by omega)]
    rfl
theorem PrG.sorted (h : PrG key H ys o) (hp : zs.Perm ys) (hs : SrtO.Srtd (ltP (keyOf H)) zs) (hn : o.Nodup) :
    PrG key H zs (zs.map (symOf H)) ∧ (zs.map (symOf H)).Perm o ∧ (zs.map (symOf H)).Pairwise fun a b => key a < key b ∨ (key a = key b ∧ a < b) := by
  have hperm : (zs.map (symOf H)).Perm o := by
    have := hp.map (symOf H)
    rwa [h.syms] at this
  refine ⟨⟨(List.length_map _).symm, fun j s hj => ?_⟩, hperm, ?_⟩
  · rw [List.getElem?_map] at hj
    cases hz : zs[j]? with
    | none => rw [hz] at hj; cases hj
    | some z =>
      rw [hz] at hj
      obtain ⟨s1, t, _, rfl, ht, es⟩ := h.mem (hp.mem_iff.mp (List.mem_of_getElem? hz))
      have e2 : s1 = s := by rw [← es]; exact Option.some.inj hj
      subst e2
      exact ⟨t, rfl, ht⟩
  · have hnd : (zs.map (symOf H)).Nodup := hperm.nodup_iff.mpr hn
    have hnd2 : zs.Pairwise fun a b => symOf H a ≠ symOf H b := List.pairwise_map.mp hnd
    refine List.pairwise_map.mpr ?_
    refine List.Pairwise.imp_of_mem (fun {a b} ha hb hab => ?_) (hs.and hnd2)
    obtain ⟨s1, t1, _, rfl, ht1, es1⟩ := h.mem (hp.mem_iff.mp ha)
    obtain ⟨s2, t2, _, rfl, ht2, es2⟩ := h.mem (hp.mem_iff.mp hb)
    obtain ⟨h4, h5⟩ := hab
    have h6 := SrtO.lexB_no.mp h4
    rw [keyOf_tup ht1, keyOf_tup ht2] at h6
    rw [es1, es2] at h5 ⊢
    simp only at h6
    omega
end
section
variable {K : PySem.W.Frag} {σ : L2.St} {H H' : Hp} {ta tb te : TE} {D : Ends} {tz : TS}
/-- sorted((key, symbol) for symbol, w in enumerate(xs) if ..): what comes of it -/
theorem tSort_use {ys : List V} {key : Nat → Int} {o : List Nat} {H1 : Hp} {R : Addr → Hp → Prop} (h : PrG key H1 ys o) (hn : o.Nodup) (q : ∀ p zs o', H1 p = none → PrG key (upd H1 p (.lst zs)) zs o' → o'.Perm o → (o'.Pairwise fun a b => key a < key b ∨ (key a = key b ∧ a < b)) → R p (upd H1 p (.lst zs))) :
    ∀ p, H1 p = none → rSortPO (.ref p) [] (upd H1 p (.lst ys)) fun _ H2 => R p H2 := fun p hp => by
  have e1 : Ex H1 (upd H1 p (.lst ys)) := Ex.new hp
  refine ⟨p, ys, keyOf H1, rfl, rfl, upd_same, fun y hy => ?_, fun zs hsr hst => ?_⟩
  · obtain ⟨s, t, _, rfl, ht, _⟩ := h.mem hy
    refine ⟨t, rfl, ?_⟩
    rw [keyOf_tup ht]
    exact e1 t _ ht
  · have hov : upd (upd H1 p (.lst ys)) p (.lst zs) = upd H1 p (.lst zs) := by
      funext b
      by_cases e : b = p
      · rw [e, upd_same, upd_same]
      · rw [upd_ne e, upd_ne e, upd_ne e]
    rw [hov]
    obtain ⟨h1, h2, h3⟩ := h.sorted hst.perm hsr hn
    exact q p zs _ hp (h1.ext (Ex.new hp)) h2 h3
/-- xs[i] = a new list -/
theorem s_setLL {l : Addr} {xs ys : List V} {j : Nat} (hl : H l = some (.lst xs)) (h : EvL te σ H ys) (ho : Ev ta σ H (.ref l)) (hi : Ev tb σ H (.int (j : Int))) (hj : j < xs.length) (k : ∀ p H1, H p = none → Ex H H1 → H1 p = some (.lst ys) → D.nx σ (upd H1 l (.lst (xs.set j (.ref p))))) :
    tAsg te (gSub ta tb rSetL) D σ H := h H (Ex.refl H) _ fun p H1 hp e1 h1 => ho H1 e1 _ fun H2 e2 => hi H2 (e1.trans e2) _ fun H3 e3 =>
  ⟨l, xs, (j : Int), j, rfl, rfl, ((e1.trans e2).trans e3) l _ hl, ixN_nat hj, k p H3 hp ((e1.trans e2).trans e3) ((e2.trans e3) p _ h1)⟩
theorem q_setLL {l : Addr} {xs ys : List V} {j : Nat} (hl : H l = some (.lst xs)) (h : EvL te σ H ys) (ho : Ev ta σ H (.ref l)) (hi : Ev tb σ H (.int (j : Int))) (hj : j < xs.length) (k : ∀ p H1, H p = none → Ex H H1 → H1 p = some (.lst ys) → tz D σ (upd H1 l (.lst (xs.set j (.ref p))))) :
    tSeq (tAsg te (gSub ta tb rSetL)) tz D σ H := s_setLL (D := { D with nx := tz D }) hl h ho hi hj k
theorem flat_rep (n : Nat) (v : V) : (List.replicate n [v]).flatten = List.replicate n v := by
  induction n with
  | zero => rfl
  | succ n ih => rw [List.replicate_succ, List.replicate_succ, List.flatten_cons, ih] <;> rfl
end
end KC
set_option Elab.async false
set_option linter.all false
set_option maxRecDepth 100000
set_option maxHeartbeats 4000000
/-! Objects: methods by the kind of the receiver's class, instances made, attributes. -/
namespace KC
open PySem PySem.Spec PyProof.Rows L2 GX Evl

/-- a method by the kind of its receiver's class: the class of kind i stands at Cl i -/
structure MCal (P : Program) (w : World) (K : PySem.W.Frag) (mg : Str → Option Value) (base : Heap) (Cl : Nat → Addr) (Is : Nat → Prop) (m : Str) (k : Nat) (ps : List Str) (sp : Nat → Sp) : Prop where
  out : ∀ i, Is i → Cls K (Cl i) ∧ ∃ f fd, Meth K (Cl i) m f ∧ Binds K fd ps [] ∧ FnOk P w K mg base CX0 k f fd ps (sp i)
def tMethD (Cl : Nat → Addr) (Is : Nat → Prop) (m : Str) (sp : Nat → Sp) (ta : TE) (t : TA) : TE := fun σ H Q => ta σ H fun x H1 => ∃ i a dx fs, Is i ∧ x = .ref a ∧ H1 a = some (.ins (Cl i) dx fs) ∧ fs.lookup m = none ∧
  t σ H1 fun vs H2 => sp i (x :: (vs ++ [])) H2 Q E0
section
variable {X : Cx} {k : Nat} {Cl : Nat → Addr} {Is : Nat → Prop} {ps : List Str} {sp : Nat → Sp} {m : Str} {pos apos : Pos} {e o : Expr} {es : List Expr} {ta : TE} {t : TA}
theorem pe_methD {pl : Sem Bool} (he : PE X o ta) (M : MCal X.prog X.w X.K X.mg X.base Cl Is m k ps sp) (hr : Room k X.A) (ha : PA X (e :: es) t)
    (hst : starEach (e :: es) X.env = (false, eval e X.env) :: starEach es X.env := by rfl) (hpl : (backTo pos (starEach es X.env)).any (·.1) = false := by rfl)
    (ht : eval (.Call (.Attribute o m apos) (e :: es) [] pos) X.env = (do
      let ov ← eval o X.env
      standAt apos.atName
      let (f, first) ← holding [ov] (getMethod ov m pl)
      callWith pos f first (backTo pos (starEach (e :: es) X.env)) (backToKw pos (keywordEach [] X.env))) := by rfl) :
    PE X (.Call (.Attribute o m apos) (e :: es) [] pos) (tMethD Cl Is m sp ta t) := by
  refine ⟨fun pins s σ H Q I h => ?_⟩
  refine PySem.W.methodCall_KW (pl := pl) (thn (he.run pins s σ H _ I h) fun u s1 ⟨x, H1, I1, rx, i, a, dx, fs, hi, ex, ea, l, q⟩ => ?_) ht
  subst ex
  obtain rfl : u = Value.ref a := rx
  obtain ⟨c, f, fd, hm, hb, F⟩ := M.out i hi
  refine getmeth_ok I1 ea c hm l ?_
  refine PySem.W.callWith_K (first := [.ref a]) (h₀ := X.base) I1.ok.mod.kin hm.kp (thn (ha.run pos pins s1 σ H1 _ I1 q) fun us s2 ⟨vs, H2, I2, r, q2⟩ => ⟨I2.kIn, ?_⟩) hst hpl
  exact run_fn (us := .ref a :: us) (vs := .ref a :: vs) F hr hb .nil pass0 I2 (.cons rfl r) q2
theorem pe_methD0 {pl : Sem Bool} (he : PE X o ta) (M : MCal X.prog X.w X.K X.mg X.base Cl Is m k ps sp) (hr : Room k X.A)
    (ht : eval (.Call (.Attribute o m apos) [] [] pos) X.env = (do
      let ov ← eval o X.env
      standAt apos.atName
      let (f, first) ← holding [ov] (getMethod ov m pl)
      callWith pos f first (backTo pos (starEach [] X.env)) (backToKw pos (keywordEach [] X.env))) := by rfl) :
    PE X (.Call (.Attribute o m apos) [] [] pos) (tMethD Cl Is m sp ta tNil) := by
  refine ⟨fun pins s σ H Q I h => ?_⟩
  refine PySem.W.methodCall_KW (pl := pl) (thn (he.run pins s σ H _ I h) fun u s1 ⟨x, H1, I1, rx, i, a, dx, fs, hi, ex, ea, l, q⟩ => ?_) ht
  subst ex
  obtain rfl : u = Value.ref a := rx
  obtain ⟨c, f, fd, hm, hb, F⟩ := M.out i hi
  refine getmeth_ok I1 ea c hm l ?_
  exact PySem.W.callWith_K0 (first := [.ref a]) I1.kIn hm.kp (run_fn (us := [.ref a]) (vs := [.ref a]) F hr hb .nil pass0 I1 (.cons rfl .nil) q)
end
/-- a class called by its name -/
structure CalM (P : Program) (w : World) (K : PySem.W.Frag) (mg : Str → Option Value) (base : Heap) (nm : Str) (C : Addr) (k : Nat) (ps : List Str) (sp : Sp) : Prop where
  out : ∃ f fd, mg nm = some (.ref C) ∧ Mk K C f ∧ Binds K fd ps [] ∧ FnOk P w K mg base CX0 k f fd ps sp
theorem pe_makeC {X : Cx} {nm : Str} {C : Addr} {k : Nat} {ps : List Str} {sp : Sp} {p pos : Pos} {e : Expr} {es : List Expr} {t : TA} (M : CalM X.prog X.w X.K X.mg X.base nm C k ps sp) (hr : Room (k + 1) X.A) (hg : Gl X nm) (ha : PA X (e :: es) t)
    (hdb : (nm == ("__debug__" : Str)) = false := by decide) (he : starEach (e :: es) X.env = (false, eval e X.env) :: starEach es X.env := by rfl) (hpl : (backTo pos (starEach es X.env)).any (·.1) = false := by rfl) :
    PE X (.Call (.Name nm p) (e :: es) [] pos) (tMake C sp [] E0 t) := by
  obtain ⟨f, fd, h1, h2, h3, h4⟩ := M.out
  exact pe_make h2 h4 hr hg h1 h3 .nil pass0 ha hdb he hpl
/-- xs[i] of a list, the index from 0 -/
def rIxL0 (K : PySem.W.Frag) : R2 := fun x y H Q => ∃ p xs, ∃ (i : Nat), ∃ v, x = .ref p ∧ y = .int (i : Int) ∧ SqL K H p xs ∧ xs[i]? = some v ∧ Q v H
theorem get_list {X : Cx} : PGet X (rIxL0 X.K) := by
  intro pins s σ H x y v u Q I rx ry h
  obtain ⟨p, xs, i, z, rfl, rfl, hq, he, q⟩ := h
  cases rx
  obtain ⟨t, rfl⟩ := ry
  obtain ⟨its, r, pl, hz⟩ := I.list hq
  obtain ⟨w, ew, rw'⟩ := r.get he
  have hn := line63
  have hl := r.length
  have hi := (List.getElem?_eq_some_iff.mp he).1
  refine wpAny_getItem_list pl.isList (by omega) (by omega) (x := w) ?_ ⟨z, H, I, rw', q⟩
  simpa using ew

/-! ### readings -/
section
variable {K : PySem.W.Frag} {σ : L2.St} {H H' : Hp} {ta tb te tx : TE} {v x : V} {D : Ends} {tz : TS} {a C dx : Addr} {fs : List (Str × V)} {f : Str}
theorem ev_fld (ha : Ev ta σ H (.ref a)) (h : H a = some (.ins C dx fs)) (c : Cls K C) (n : NoAttr K C f) (l : fs.lookup f = some v) : Ev (tFld K ta f) σ H v := fun H1 e Q q =>
  ha H1 e _ fun H2 e2 => ⟨a, C, dx, fs, v, rfl, (e.trans e2) a _ h, c, n, l, q H2 e2⟩
theorem s_fld (hv : Ev te σ H v) (ha : Ev ta σ H (.ref a)) (h : H a = some (.ins C dx fs)) (c : Cls K C) (n : NoAttr K C f) (hl : fs.length < 1000) (k : ∀ H1, Ex H H1 → D.nx σ (upd H1 a (.ins C dx (putF f v fs)))) : sFld K ta te f D σ H :=
  hv H (Ex.refl H) _ fun H1 e1 => ha H1 e1 _ fun H2 e2 => ⟨a, C, dx, fs, rfl, (e1.trans e2) a _ h, c, n, hl, k H2 (e1.trans e2)⟩
theorem q_fld (hv : Ev te σ H v) (ha : Ev ta σ H (.ref a)) (h : H a = some (.ins C dx fs)) (c : Cls K C) (n : NoAttr K C f) (hl : fs.length < 1000) (k : ∀ H1, Ex H H1 → tz D σ (upd H1 a (.ins C dx (putF f v fs)))) : tSeq (sFld K ta te f) tz D σ H :=
  s_fld (D := { D with nx := tz D }) hv ha h c n hl k
theorem s_fldL {xs : List V} (hv : EvL te σ H xs) (ha : Ev ta σ H (.ref a)) (h : H a = some (.ins C dx fs)) (c : Cls K C) (n : NoAttr K C f) (hl : fs.length < 1000) (k : ∀ p H1, H p = none → Ex H H1 → H1 p = some (.lst xs) → D.nx σ (upd H1 a (.ins C dx (putF f (.ref p) fs)))) : sFld K ta te f D σ H :=
  hv H (Ex.refl H) _ fun p H1 hp e1 h1 => ha H1 e1 _ fun H2 e2 => ⟨a, C, dx, fs, rfl, (e1.trans e2) a _ h, c, n, hl, k p H2 hp (e1.trans e2) (e2 p _ h1)⟩
theorem q_fldL {xs : List V} (hv : EvL te σ H xs) (ha : Ev ta σ H (.ref a)) (h : H a = some (.ins C dx fs)) (c : Cls K C) (n : NoAttr K C f) (hl : fs.length < 1000) (k : ∀ p H1, H p = none → Ex H H1 → H1 p = some (.lst xs) → tz D σ (upd H1 a (.ins C dx (putF f (.ref p) fs)))) : tSeq (sFld K ta te f) tz D σ H :=
  s_fldL (D := { D with nx := tz D }) hv ha h c n hl k
theorem ev_meth {Cl : Nat → Addr} {Is : Nat → Prop} {m : Str} {sp : Nat → Sp} {t : TA} {i : Nat} {vs : List V} (ha : Ev ta σ H (.ref a)) (hi : Is i) (h : H a = some (.ins (Cl i) dx fs)) (l : fs.lookup m = none) (ht : EvA t σ H vs) (hs : SpV (sp i) (.ref a :: (vs ++ [])) H v) : Ev (tMethD Cl Is m sp ta t) σ H v := fun H1 e Q q =>
  ha H1 e _ fun H2 e2 => ⟨i, a, dx, fs, hi, rfl, (e.trans e2) a _ h, l, ht H2 (e.trans e2) _ fun H3 e3 => hs H3 ((e.trans e2).trans e3) Q (fun H4 e4 => q H4 ((e2.trans e3).trans e4)) E0⟩
theorem cutV_to (xs : List V) (n : Nat) : cutV xs none (some (n : Int)) = xs.take n := by
  unfold cutV
  rw [HT.sIx_none, HT.sIx_nat, List.drop_zero, Nat.sub_zero]
  by_cases h : n ≤ xs.length
  · rw [Nat.min_eq_left h]
  · rw [Nat.min_eq_right (by omega), List.take_of_length_le (Nat.le_refl _), List.take_of_length_le (by omega)]
theorem s_augS {to ti : TE} {l : Addr} {xs : List V} {s : Nat} {p q : Int} {g : Int → Int → Int} (hl : H l = some (.lst xs)) (ho : Ev to σ H (.ref l)) (hi : Ev ti σ H (.int (s : Int))) (hx : xs[s]? = some (.int p)) (he : Ev te σ H (.int q)) (k : ∀ H1, Ex H H1 → D.nx σ (upd H1 l (.lst (xs.set s (.int (g p q)))))) :
    tAugS to ti te (rIxL0 K) (ipI g) rSetL D σ H :=
  ho H (Ex.refl H) _ fun H1 e1 => hi H1 e1 _ fun H2 e2 => ⟨l, xs, s, _, rfl, rfl, sq_of ((e1.trans e2) l _ hl), hx, he H2 (e1.trans e2) _ fun H3 e3 => ⟨p, q, rfl, rfl, l, xs, (s : Int), s, rfl, rfl, ((e1.trans e2).trans e3) l _ hl, ixN_nat ((List.getElem?_eq_some_iff.mp hx).1), k H3 ((e1.trans e2).trans e3)⟩⟩
theorem q_augS {to ti : TE} {l : Addr} {xs : List V} {s : Nat} {p q : Int} {g : Int → Int → Int} (hl : H l = some (.lst xs)) (ho : Ev to σ H (.ref l)) (hi : Ev ti σ H (.int (s : Int))) (hx : xs[s]? = some (.int p)) (he : Ev te σ H (.int q)) (k : ∀ H1, Ex H H1 → tz D σ (upd H1 l (.lst (xs.set s (.int (g p q)))))) :
    tSeq (tAugS to ti te (rIxL0 K) (ipI g) rSetL) tz D σ H := s_augS (D := { D with nx := tz D }) hl ho hi hx he k
/-- it gives something that is so -/
def EvP (te : TE) (σ : L2.St) (H : Hp) (R : V → Hp → Prop) : Prop := ∀ H1, Ex H H1 → ∀ Q : VK, (∀ v H2, Ex H1 H2 → R v H2 → Q v H2) → te σ H1 Q
theorem s_retP {R : V → Hp → Prop} (h : EvP te σ H R) (k : ∀ v H1, Ex H H1 → R v H1 → D.rt v H1) : tRet te D σ H := h H (Ex.refl H) _ k
theorem s_asgP {i : Nat} {R : V → Hp → Prop} (h : EvP te σ H R) (k : ∀ v H1, Ex H H1 → R v H1 → D.nx (σ.set i (some v)) H1) : tAsg te (gName i) D σ H := h H (Ex.refl H) _ k
theorem q_asgP {i : Nat} {R : V → Hp → Prop} (h : EvP te σ H R) (k : ∀ v H1, Ex H H1 → R v H1 → tz D (σ.set i (some v)) H1) : tSeq (tAsg te (gName i)) tz D σ H := h H (Ex.refl H) _ k
theorem q_fldP {R : V → Hp → Prop} (hv : EvP te σ H R) (ha : Ev ta σ H (.ref a)) (h : H a = some (.ins C dx fs)) (c : Cls K C) (n : NoAttr K C f) (hl : fs.length < 1000) (k : ∀ v H1 H2, Ex H H1 → R v H1 → Ex H1 H2 → tz D σ (upd H2 a (.ins C dx (putF f v fs)))) : tSeq (sFld K ta te f) tz D σ H :=
  hv H (Ex.refl H) _ fun v H1 e1 r => ha H1 e1 _ fun H2 e2 => ⟨a, C, dx, fs, rfl, (e1.trans e2) a _ h, c, n, hl, k v H1 H2 e1 r e2⟩
/-- [e for x in range(n)] whose items are new objects -/
theorem ep_lcR1 {ta : TA} {j n : Nat} {vs : List Nat} {R : V → Hp → Prop} (h : EvA ta σ H [.int (n : Int)]) (hn : n ≤ 40000) (hw : ∀ x, wipe ((wipe σ vs).set j (some x)) vs = wipe σ vs) (Pv : Hp → Addr → Nat → Hp → Prop)
    (h0 : ∀ H1 Dl, Ex H H1 → H1 Dl = none → Pv H1 Dl 0 (upd H1 Dl (.lst [])))
    (hs : ∀ H1 Dl i H', Ex H H1 → H1 Dl = none → i < n → Pv H1 Dl i H' → te ((wipe σ vs).set j (some (.int (i : Int)))) H' fun y H4 => ∃ acc, H4 Dl = some (.lst acc) ∧ acc.length < sizeLine ∧ Pv H1 Dl (i + 1) (upd H4 Dl (.lst (acc ++ [y]))))
    (hd : ∀ H1 Dl H', Ex H H1 → H1 Dl = none → Pv H1 Dl n H' → Ex H1 H' ∧ R (.ref Dl) H') : EvP (tLc (iRng1 ta) (gName j) tYes te vs) σ H R := fun H0 e0 Q q =>
  h H0 e0 _ fun H1 e1 => ⟨(n : Int), rfl, by omega, by omega, fun Dl hD => lc_range (lo := 0) (n := n) (Pv H1 Dl) (h0 H1 Dl (e0.trans e1) hD) (fun i H' hi p => by
    have e2 : (0 : Int) + (i : Int) = (i : Int) := Int.zero_add _
    show wipe ((wipe σ vs).set j (some (.int ((0 : Int) + (i : Int))))) vs = wipe σ vs ∧ tYes ((wipe σ vs).set j (some (.int ((0 : Int) + (i : Int))))) H' fun b H3 => _
    rw [e2]
    exact ⟨hw _, tt_yes (hs H1 Dl i H' (e0.trans e1) hD hi p)⟩) fun H' p => by
      obtain ⟨e3, r⟩ := hd H1 Dl H' (e0.trans e1) hD p
      exact q _ H' (e1.trans e3) r⟩
theorem ev_methP {Cl : Nat → Addr} {Is : Nat → Prop} {m : Str} {sp : Nat → Sp} {t : TA} {i : Nat} {vs : List V} {R : V → Hp → Prop} (ha : Ev ta σ H (.ref a)) (hi : Is i) (h : H a = some (.ins (Cl i) dx fs)) (l : fs.lookup m = none) (ht : EvA t σ H vs)
    (hs : ∀ H1, Ex H H1 → ∀ Q : VK, (∀ v H2, Ex H1 H2 → R v H2 → Q v H2) → sp i (.ref a :: (vs ++ [])) H1 Q E0) : EvP (tMethD Cl Is m sp ta t) σ H R := fun H1 e Q q =>
  ha H1 e _ fun H2 e2 => ⟨i, a, dx, fs, hi, rfl, (e.trans e2) a _ h, l, ht H2 (e.trans e2) _ fun H3 e3 => hs H3 ((e.trans e2).trans e3) Q (fun v H4 e4 r => q v H4 ((e2.trans e3).trans e4) r)⟩
/-- C(..) -/
theorem ev_make {sp : Sp} {t : TA} {vs : List V} {R : V → Hp → Prop} (ht : EvA t σ H vs)
    (hs : ∀ H1 x dx, Ex H H1 → H1 x = none → H1 dx = none → dx ≠ x → ∀ Q : VK, (∀ H2, Ex H1 H2 → R (.ref x) H2 → Q .non H2) → sp (.ref x :: (vs ++ [])) (upd (upd H1 dx (.own x)) x (.ins C dx [])) Q E0) : EvP (tMake C sp [] E0 t) σ H R := fun H1 e Q q =>
  ht H1 e _ fun H2 e2 x dx nx nd ne => hs H2 x dx (e.trans e2) nx nd ne _ fun H3 e3 r => ⟨rfl, q _ H3 (e2.trans e3) r⟩
theorem made_ex {x : Addr} (nx : H x = none) (nd : H dx = none) : Ex H (upd (upd H dx (.own x)) x (.ins C dx [])) := fun b o e => by
  rw [upd_ne (ne_of_none e nx), upd_ne (ne_of_none e nd)]
  exact e
/-- the heap behind a change that touches only what stands at F -/
def Kp (F : Addr → Prop) (H H' : Hp) : Prop := ∀ b o, H b = some o → ¬ F b → H' b = some o
theorem Kp.of_ex {F : Addr → Prop} (e : Ex H H') : Kp F H H' := fun b o h _ => e b o h
theorem Kp.trans {F : Addr → Prop} {H1 H2 H3 : Hp} (a : Kp F H1 H2) (b : Kp F H2 H3) : Kp F H1 H3 := fun x o h n => b x o (a x o h n) n
theorem Kp.put {F : Addr → Prop} {p : Addr} {o : HO} (a : Kp F H H') (h : F p) : Kp F H (upd H' p o) := fun b u e n => by
  have hb : b ≠ p := fun z => by
    subst z
    exact n h
  rw [upd_ne hb]
  exact a b u e n
theorem Kp.mono {F G : Addr → Prop} (a : Kp F H H') (h : ∀ b o, F b → H b = some o → G b) : Kp G H H' := fun b o e n => a b o e fun f => n (h b o f e)
theorem Kp.ex {F : Addr → Prop} (a : Kp F H H') (h : ∀ b, F b → H b = none) : Ex H H' := fun b o e => a b o e fun f => by
  rw [h b f] at e
  cases e
/-- for i, x in enumerate(xs) -/
theorem s_forEn {tu : TS} {xs : List V} {j k : Nat} (h : Ev ta σ H (.ref a)) (hx : SqL K H a xs) (Pv : Nat → L2.St → Hp → Prop) (h0 : ∀ H1, Ex H H1 → Pv 0 σ H1) (hl : ∀ i σ' H', Pv i σ' H' → SqL K H' a xs)
    (hs : ∀ i x σ' H' H2, xs[i]? = some x → Pv i σ' H' → Ex H' H2 → tu { D with nx := Pv (i + 1), ct := Pv (i + 1), bk := D.nx } ((σ'.set j (some (.int (i : Int)))).set k (some x)) H2) (hd : ∀ σ' H', Pv xs.length σ' H' → D.nx σ' H') :
    tFor (iEnum K (tCons ta tNil)) (gTup K 2 (gCons (gName j) (gCons (gName k) gNil))) tu D σ H :=
  h H (Ex.refl H) _ fun H1 e => ⟨a, xs, rfl, ex_l e hx, fun i m σ' H' => m + i = xs.length ∧ Pv i σ' H', ⟨xs.length, by omega, h0 H1 e⟩, fun i m σ' H' ⟨hm, p⟩ => by
    by_cases hi : i < xs.length
    · right
      obtain ⟨v, hv⟩ : ∃ v, xs[i]? = some v := ⟨_, List.getElem?_eq_getElem hi⟩
      refine ⟨⟨xs, v, hl i σ' H' p, hv⟩, Pv (i + 1), fun σ2 H2 q => ⟨m - 1, by omega, by omega, q⟩, ?_⟩
      rintro x H5 ⟨t, v2, rfl, ht, rfl, hv2⟩
      have ev := Option.some.inj (hv.symm.trans (hv2 _ (hl i σ' H' p)))
      subst ev
      exact ⟨t, _, rfl, .inl (.inl upd_same), rfl, _, _, rfl, _, _, rfl, rfl, hs i v σ' H' _ hv p (Ex.new ht)⟩
    · left
      have e2 : i = xs.length := by omega
      subst e2
      exact ⟨⟨xs, hl _ σ' H' p, by omega⟩, hd σ' H' p⟩⟩
theorem q_forEn {tu : TS} {xs : List V} {j k : Nat} (h : Ev ta σ H (.ref a)) (hx : SqL K H a xs) (Pv : Nat → L2.St → Hp → Prop) (h0 : ∀ H1, Ex H H1 → Pv 0 σ H1) (hl : ∀ i σ' H', Pv i σ' H' → SqL K H' a xs)
    (hs : ∀ i x σ' H' H2, xs[i]? = some x → Pv i σ' H' → Ex H' H2 → tu { D with nx := Pv (i + 1), ct := Pv (i + 1), bk := tz D } ((σ'.set j (some (.int (i : Int)))).set k (some x)) H2) (hd : ∀ σ' H', Pv xs.length σ' H' → tz D σ' H') :
    tSeq (tFor (iEnum K (tCons ta tNil)) (gTup K 2 (gCons (gName j) (gCons (gName k) gNil))) tu) tz D σ H := s_forEn (D := { D with nx := tz D }) h hx Pv h0 hl hs hd
/-- if t: xs[j] = e -/
theorem q_ifSetL {t : TT} {b : Bool} {l : Addr} {xs ys : List V} {j : Nat} (hl : H l = some (.lst xs)) (h : EvT t σ H b) (he : b = true → Ev te σ H v) (ho : b = true → Ev ta σ H (.ref l)) (hi : b = true → Ev tb σ H (.int (j : Int))) (hj : b = true → j < xs.length) (hy : ys = if b = true then xs.set j v else xs)
    (k : ∀ H1, Kp (fun b => b = l) H H1 → (∀ x, H1 x = none → H x = none) → H1 l = some (.lst ys) → tz D σ H1) : tSeq (tIfS t (tAsg te (gSub ta tb rSetL)) tNext) tz D σ H := by
  refine q_when h (fun hb H1 e1 => ?_) (fun hb H1 e1 => ?_)
  · refine s_setL (e1 _ _ hl) ((he hb).mono e1) ((ho hb).mono e1) ((hi hb).mono e1) (hj hb) fun H2 e2 => k _ (Kp.put (Kp.of_ex (e1.trans e2)) rfl) (fun x hx => ?_) (by rw [upd_same, hy, if_pos hb])
    by_cases z : x = l
    · rw [z, upd_same] at hx
      cases hx
    · rw [upd_ne z] at hx
      exact fresh_back (e1.trans e2) hx
  · exact k H1 (Kp.of_ex e1) (fun x hx => fresh_back e1 hx) (by rw [hy, if_neg (by rw [hb]; decide)]; exact e1 _ _ hl)
theorem putF_putF {f : Str} {u v : V} : ∀ fs : List (Str × V), putF f v (putF f u fs) = putF f v fs
  | [] => by
    show (if f = f then [(f, v)] else (f, u) :: putF f v []) = [(f, v)]
    rw [if_pos rfl]
  | (g, y) :: r => by
    by_cases h : g = f
    · show putF f v (if g = f then (g, u) :: r else _) = (if g = f then (g, v) :: r else _)
      rw [if_pos h, if_pos h]
      show (if g = f then (g, v) :: r else _) = _
      rw [if_pos h]
    · show putF f v (if g = f then (g, u) :: r else (g, y) :: putF f u r) = (if g = f then (g, v) :: r else (g, y) :: putF f v r)
      rw [if_neg h, if_neg h]
      show (if g = f then (g, v) :: putF f u r else (g, y) :: putF f v (putF f u r)) = _
      rw [if_neg h, putF_putF r]
end
end KC
set_option linter.all false
/-! The models, without the program. -/
namespace M08
structure Md where
  kind : Nat
  rows : List (List Int)
  now : Nat
  step : Int
  limit : Int
def Md.row (m : Md) : List Int := m.rows.getD m.now []
/-- a row behind a symbol that was learned -/
def grown (ws : List Int) (s : Nat) (st lim : Int) : List Int :=
  if lim < (ws.set s (ws.getD s 0 + st)).sum then (ws.set s (ws.getD s 0 + st)).map (fun w => (w + 1) / 2) else ws.set s (ws.getD s 0 + st)
def Md.learn (m : Md) (s : Nat) : Md := if m.kind = 0 then m else { m with rows := m.rows.set m.now (grown m.row s m.step m.limit), now := if m.kind = 2 then s else m.now }
def Md.fresh (m : Md) : Md := if m.kind = 0 then m else { m with rows := m.rows.map (fun r => List.replicate r.length 1), now := 0 }
def RowOk (n : Nat) (r : List Int) : Prop := r.length = n ∧ (∀ x ∈ r, 0 ≤ x) ∧ 1 ≤ r.sum
structure Ok (n : Nat) (m : Md) : Prop where
  n1 : 1 ≤ n
  n64 : n ≤ 64
  rows : ∀ r ∈ m.rows, RowOk n r
  now : m.now < m.rows.length
  one : m.kind ≤ 1 → m.rows.length = 1
  two : m.kind = 2 → m.rows.length = n
  step : 0 ≤ m.step
  kd : m.kind ≤ 2
theorem Ok.row {n : Nat} {m : Md} (h : Ok n m) : RowOk n m.row := by
  unfold Md.row
  rw [List.getD_eq_getElem?_getD, List.getElem?_eq_getElem h.now]
  exact h.rows _ (List.getElem_mem h.now)
theorem row_at {n : Nat} {m : Md} (h : Ok n m) : m.rows[m.now]? = some m.row := by
  unfold Md.row
  rw [List.getD_eq_getElem?_getD, List.getElem?_eq_getElem h.now]
  rfl
theorem sum_nonneg : ∀ l : List Int, (∀ x ∈ l, 0 ≤ x) → 0 ≤ l.sum
  | [], _ => by simp
  | a :: r, h => by
    have h1 := h a (by simp)
    have h2 := sum_nonneg r fun x hx => h x (by simp [hx])
    simp only [List.sum_cons]
    omega
theorem sum_set : ∀ (l : List Int) (s : Nat) (d : Int), s < l.length → (l.set s (l.getD s 0 + d)).sum = l.sum + d
  | [], s, d, h => by simp at h
  | a :: r, 0, d, h => by
    simp only [List.getD_cons_zero, List.set_cons_zero, List.sum_cons]
    omega
  | a :: r, s + 1, d, h => by
    have := sum_set r s d (by simpa using h)
    simp only [List.getD_cons_succ, List.set_cons_succ, List.sum_cons, this]
    omega
theorem sum_half : ∀ l : List Int, (∀ x ∈ l, 0 ≤ x) → (∀ x ∈ l.map (fun w : Int => (w + 1) / 2), 0 ≤ x) ∧ l.sum ≤ 2 * (l.map (fun w : Int => (w + 1) / 2)).sum
  | [], _ => by simp
  | a :: r, h => by
    have h1 := h a (by simp)
    obtain ⟨h2, h3⟩ := sum_half r fun x hx => h x (by simp [hx])
    refine ⟨fun x hx => ?_, ?_⟩
    · rw [List.map_cons, List.mem_cons] at hx
      rcases hx with rfl | hx
      · omega
      · exact h2 x hx
    · simp only [List.map_cons, List.sum_cons]
      omega
theorem set_nonneg {l : List Int} {s : Nat} {v : Int} (h : ∀ x ∈ l, 0 ≤ x) (hv : 0 ≤ v) : ∀ x ∈ l.set s v, 0 ≤ x := fun x hx => by
  rcases List.mem_or_eq_of_mem_set hx with h1 | h1
  · exact h x h1
  · rw [h1]
    exact hv
theorem getD_nonneg {l : List Int} (h : ∀ x ∈ l, 0 ≤ x) (s : Nat) : 0 ≤ l.getD s 0 := by
  rw [List.getD_eq_getElem?_getD]
  cases e : l[s]? with
  | none => simp
  | some x => exact h x (List.mem_of_getElem? e)
theorem grown_ok {n : Nat} {ws : List Int} {s : Nat} {st lim : Int} (h : RowOk n ws) (hs : s < n) (h0 : 0 ≤ st) : RowOk n (grown ws s st lim) := by
  obtain ⟨h1, h2, h3⟩ := h
  have hz := set_nonneg (s := s) h2 (show 0 ≤ ws.getD s 0 + st by have := getD_nonneg h2 s; omega)
  have hsum := sum_set ws s st (by omega)
  unfold grown
  split
  · obtain ⟨a, b⟩ := sum_half _ hz
    exact ⟨by rw [List.length_map, List.length_set, h1], a, by omega⟩
  · exact ⟨by rw [List.length_set, h1], hz, by omega⟩
theorem Ok.learn {n : Nat} {m : Md} (h : Ok n m) {s : Nat} (hs : s < n) : Ok n (m.learn s) := by
  unfold Md.learn
  split
  · exact h
  · rename_i hk
    refine ⟨h.n1, h.n64, fun r hr => ?_, ?_, fun z => ?_, fun z => ?_, h.step, h.kd⟩
    · rcases List.mem_or_eq_of_mem_set hr with h1 | h1
      · exact h.rows r h1
      · rw [h1]
        exact grown_ok h.row hs h.step
    · show (if m.kind = 2 then s else m.now) < (m.rows.set m.now (grown m.row s m.step m.limit)).length
      rw [List.length_set]
      split
      · rename_i e
        rw [h.two e]
        exact hs
      · exact h.now
    · show (m.rows.set m.now (grown m.row s m.step m.limit)).length = 1
      rw [List.length_set]
      exact h.one z
    · show (m.rows.set m.now (grown m.row s m.step m.limit)).length = n
      rw [List.length_set]
      exact h.two z
theorem rep_ok {n : Nat} (h : 1 ≤ n) : RowOk n (List.replicate n 1) := by
  refine ⟨by simp, fun x hx => ?_, ?_⟩
  · rw [(List.mem_replicate.mp hx).2]
    omega
  · have : ∀ k : Nat, (List.replicate k (1 : Int)).sum = k := fun k => by
      induction k with
      | zero => simp
      | succ k ih => rw [List.replicate_succ, List.sum_cons, ih]; omega
    rw [this]
    omega
theorem Ok.fresh {n : Nat} {m : Md} (h : Ok n m) : Ok n m.fresh := by
  unfold Md.fresh
  split
  · exact h
  · refine ⟨h.n1, h.n64, fun r hr => ?_, ?_, fun z => ?_, fun z => ?_, h.step, h.kd⟩
    · obtain ⟨r2, h2, rfl⟩ := List.mem_map.mp hr
      rw [(h.rows r2 h2).1]
      exact rep_ok h.n1
    · show 0 < (m.rows.map _).length
      rw [List.length_map]
      have := h.now
      omega
    · show (m.rows.map _).length = 1
      rw [List.length_map]
      exact h.one z
    · show (m.rows.map _).length = n
      rw [List.length_map]
      exact h.two z
theorem map_rep {n : Nat} {rows : List (List Int)} (h : ∀ r ∈ rows, RowOk n r) : rows.map (fun r => List.replicate r.length (1 : Int)) = List.replicate rows.length (List.replicate n 1) := by
  induction rows with
  | nil => rfl
  | cons a r ih =>
    rw [List.map_cons, ih fun x hx => h x (by simp [hx]), (h a (by simp)).1, List.length_cons, List.replicate_succ]
theorem fresh_rows {n : Nat} {m : Md} (h : Ok n m) (hk : m.kind ≠ 0) : m.fresh = { m with rows := List.replicate m.rows.length (List.replicate n 1), now := 0 } := by
  unfold Md.fresh
  rw [if_neg hk, map_rep h.rows]
theorem learn_fresh {n : Nat} {m : Md} (h : Ok n m) {s : Nat} (hs : s < n) : (m.learn s).fresh = m.fresh := by
  have h2 := h.learn hs
  by_cases hk : m.kind = 0
  · unfold Md.learn
    rw [if_pos hk]
  · have e : (m.learn s).kind = m.kind := by unfold Md.learn; rw [if_neg hk]
    have e3 : (m.learn s).rows.length = m.rows.length := by unfold Md.learn; rw [if_neg hk]; simp
    have e4 : (m.learn s).step = m.step := by unfold Md.learn; rw [if_neg hk]
    have e5 : (m.learn s).limit = m.limit := by unfold Md.learn; rw [if_neg hk]
    rw [fresh_rows h2 (by rw [e]; exact hk), fresh_rows h hk, e3, e, e4, e5]
/-- the symbol at a number -/
def symAt : List Int → Int → Nat
  | [], _ => 0
  | w :: r, x => if x < w then 0 else symAt r (x - w) + 1
theorem symAt_spec : ∀ (l : List Int) (x : Int), (∀ y ∈ l, 0 ≤ y) → 0 ≤ x → x < l.sum → symAt l x < l.length ∧ (l.take (symAt l x)).sum ≤ x ∧ x < (l.take (symAt l x + 1)).sum
  | [], x, _, h0, h => by simp at h; omega
  | w :: r, x, hl, h0, h => by
    unfold symAt
    split
    · rename_i hx
      exact ⟨by simp, by simpa using h0, by simpa using hx⟩
    · rename_i hx
      rw [List.sum_cons] at h
      obtain ⟨h1, h2, h3⟩ := symAt_spec r (x - w) (fun y hy => hl y (by simp [hy])) (by omega) (by omega)
      refine ⟨by simpa using h1, ?_, ?_⟩
      · rw [List.take_succ_cons, List.sum_cons]
        omega
      · rw [List.take_succ_cons, List.sum_cons]
        omega
theorem take_nonneg {l : List Int} (h : ∀ y ∈ l, 0 ≤ y) (k : Nat) : 0 ≤ (l.take k).sum := sum_nonneg _ fun x hx => h x (List.mem_of_mem_take hx)
/-- ahead of the symbol the sums are not above the number -/
theorem symAt_before : ∀ (l : List Int) (x : Int) (j : Nat), (∀ y ∈ l, 0 ≤ y) → j ≤ symAt l x → (l.take j).sum ≤ x ∨ j = 0
  | _, _, 0, _, _ => .inr rfl
  | [], x, j + 1, _, h => by simp [symAt] at h
  | w :: r, x, j + 1, hl, h => by
    left
    unfold symAt at h
    split at h
    · omega
    · rename_i hx
      rw [List.take_succ_cons, List.sum_cons]
      rcases symAt_before r (x - w) j (fun y hy => hl y (by simp [hy])) (by omega) with h1 | h1
      · omega
      · subst h1
        simp
        omega
theorem sum_take_succ : ∀ (l : List Int) (k : Nat), k < l.length → (l.take (k + 1)).sum = (l.take k).sum + l.getD k 0
  | [], k, h => by simp at h
  | a :: r, 0, h => by simp
  | a :: r, k + 1, h => by
    have := sum_take_succ r k (by simpa using h)
    rw [List.take_succ_cons, List.sum_cons, this, List.take_succ_cons, List.sum_cons, List.getD_cons_succ]
    omega
end M08
set_option Elab.async false
set_option linter.all false
set_option maxRecDepth 100000
set_option maxHeartbeats 4000000
namespace K13
open PySem PySem.Spec PyProof.Rows L2 StX GX KC Evl M08
def topS (i : Nat) : Stmt := PySem.Challenge.pw_kraftroom_k13_whole_messages_in_words.main.body.getD i (.Pass ⟨0, 0, 0, 0⟩)
abbrev s_KraftroomError_init : Stmt := inClass (topS 1) 0
theorem sc_KraftroomError_init : FnScope ["self", "place"] ["self", "place"] (defScope s_KraftroomError_init) := ⟨rfl, rfl, rfl, by decide +kernel, rfl, by decide +kernel, by decide +kernel⟩
abbrev s_push : Stmt := topS 7
theorem sc_push : FnScope ["low", "weight", "total", "number"] ["low", "weight", "total", "number"] (defScope s_push) := ⟨rfl, rfl, rfl, by decide +kernel, rfl, by decide +kernel, by decide +kernel⟩
abbrev s_pop : Stmt := topS 8
theorem sc_pop : FnScope ["model", "number", "total", "rest", "symbol"] ["model", "number"] (defScope s_pop) := ⟨rfl, rfl, rfl, by decide +kernel, rfl, by decide +kernel, by decide +kernel⟩
abbrev s_shares : Stmt := topS 9
theorem sc_shares : FnScope ["model", "message", "teller", "found", "symbol"] ["model", "message"] (defScope s_shares) := ⟨rfl, rfl, rfl, by decide +kernel, rfl, by decide +kernel, by decide +kernel⟩
abbrev s_pack_words : Stmt := topS 10
theorem sc_pack_words : FnScope ["model", "message", "state", "found", "low", "weight", "total", "end"] ["model", "message"] (defScope s_pack_words) := ⟨rfl, rfl, rfl, by decide +kernel, rfl, by decide +kernel, by decide +kernel⟩
abbrev s_refill : Stmt := topS 11
theorem sc_refill : FnScope ["state", "words", "used", "full", "count"] ["state", "words", "used"] (defScope s_refill) := ⟨rfl, rfl, rfl, by decide +kernel, rfl, by decide +kernel, by decide +kernel⟩
abbrev s_unpack_words : Stmt := topS 12
theorem sc_unpack_words : FnScope ["model", "state", "words", "count", "teller", "rest", "used", "message", "_", "symbol"] ["model", "state", "words", "count"] (defScope s_unpack_words) := ⟨rfl, rfl, rfl, by decide +kernel, rfl, by decide +kernel, by decide +kernel⟩
abbrev s_low_in : Stmt := topS 14
theorem sc_low_in : FnScope ["weights", "symbol"] ["weights", "symbol"] (defScope s_low_in) := ⟨rfl, rfl, rfl, by decide +kernel, rfl, by decide +kernel, by decide +kernel⟩
abbrev s_symbol_in : Stmt := topS 15
theorem sc_symbol_in : FnScope ["weights", "number", "end", "symbol", "weight"] ["weights", "number"] (defScope s_symbol_in) := ⟨rfl, rfl, rfl, by decide +kernel, rfl, by decide +kernel, by decide +kernel⟩
abbrev s_Counts_init : Stmt := inClass (topS 16) 0
theorem sc_Counts_init : FnScope ["self", "weights"] ["self", "weights"] (defScope s_Counts_init) := ⟨rfl, rfl, rfl, by decide +kernel, rfl, by decide +kernel, by decide +kernel⟩
abbrev s_Counts_size : Stmt := inClass (topS 16) 1
theorem sc_Counts_size : FnScope ["self"] ["self"] (defScope s_Counts_size) := ⟨rfl, rfl, rfl, by decide +kernel, rfl, by decide +kernel, by decide +kernel⟩
abbrev s_Counts_total : Stmt := inClass (topS 16) 2
theorem sc_Counts_total : FnScope ["self"] ["self"] (defScope s_Counts_total) := ⟨rfl, rfl, rfl, by decide +kernel, rfl, by decide +kernel, by decide +kernel⟩
abbrev s_Counts_low : Stmt := inClass (topS 16) 3
theorem sc_Counts_low : FnScope ["self", "symbol"] ["self", "symbol"] (defScope s_Counts_low) := ⟨rfl, rfl, rfl, by decide +kernel, rfl, by decide +kernel, by decide +kernel⟩
abbrev s_Counts_weight : Stmt := inClass (topS 16) 4
theorem sc_Counts_weight : FnScope ["self", "symbol"] ["self", "symbol"] (defScope s_Counts_weight) := ⟨rfl, rfl, rfl, by decide +kernel, rfl, by decide +kernel, by decide +kernel⟩
abbrev s_Counts_symbol_at : Stmt := inClass (topS 16) 5
theorem sc_Counts_symbol_at : FnScope ["self", "number"] ["self", "number"] (defScope s_Counts_symbol_at) := ⟨rfl, rfl, rfl, by decide +kernel, rfl, by decide +kernel, by decide +kernel⟩
abbrev s_Counts_learn : Stmt := inClass (topS 16) 6
theorem sc_Counts_learn : FnScope ["self", "symbol"] ["self", "symbol"] (defScope s_Counts_learn) := ⟨rfl, rfl, rfl, by decide +kernel, rfl, by decide +kernel, by decide +kernel⟩
abbrev s_Counts_fresh : Stmt := inClass (topS 16) 7
theorem sc_Counts_fresh : FnScope ["self"] ["self"] (defScope s_Counts_fresh) := ⟨rfl, rfl, rfl, by decide +kernel, rfl, by decide +kernel, by decide +kernel⟩
abbrev s_law_cell : Stmt := topS 18
theorem sc_law_cell : FnScope ["script", "k"] ["script", "k"] (defScope s_law_cell) := ⟨rfl, rfl, rfl, by decide +kernel, rfl, by decide +kernel, by decide +kernel⟩
abbrev s_law_weights : Stmt := topS 19
theorem sc_law_weights : FnScope ["script", "cell", "size", "total", "weights", "left", "k", "weight"] ["script"] (defScope s_law_weights) := ⟨rfl, rfl, rfl, by decide +kernel, rfl, by decide +kernel, by decide +kernel⟩
abbrev s_law_packed : Stmt := topS 20
theorem sc_law_packed : FnScope ["weights", "message", "state", "total", "words", "back", "symbol", "weight", "turn"] ["weights", "message"] (defScope s_law_packed) := ⟨rfl, rfl, rfl, by decide +kernel, rfl, by decide +kernel, by decide +kernel⟩
abbrev s_law_unpacked : Stmt := topS 21
theorem sc_law_unpacked : FnScope ["weights", "state", "words", "count", "message", "used", "total", "k", "rest", "symbol", "j", "turn"] ["weights", "state", "words", "count"] (defScope s_law_unpacked) := ⟨rfl, rfl, rfl, by decide +kernel, rfl, by decide +kernel, by decide +kernel⟩
abbrev s_law_told : Stmt := topS 22
theorem sc_law_told : FnScope ["model", "state", "words", "count", "e"] ["model", "state", "words", "count"] (defScope s_law_told) := ⟨rfl, rfl, rfl, by decide +kernel, rfl, by decide +kernel, by decide +kernel⟩
abbrev s_law : Stmt := topS 23
theorem sc_law : FnScope ["script", "weights", "model", "present", "k", "message", "cell", "given", "found", "words", "behind", "fewer", "state", "count"] ["script"] (defScope s_law) := ⟨rfl, rfl, rfl, by decide +kernel, rfl, by decide +kernel, by decide +kernel⟩
structure Txt (K : PySem.W.Frag) (Cl : Nat → Addr) : Prop where
  c0 : Cls K (Cl 0)
  w0 : NoAttr K (Cl 0) "weights"
/-! attributes -/
def fC (l : Addr) : List (Str × V) := putF "weights" (.ref l) []
theorem fC_w (l : Addr) : (fC l).lookup ("weights" : Str) = some (.ref l) := by
  unfold fC
  rw [lookup_putF, if_pos rfl]
theorem fC_no (l : Addr) {m : Str} (h : ¬ m = "weights") : (fC l).lookup m = none := by
  unfold fC
  rw [lookup_putF, if_neg h] <;> rfl
theorem fC_len (l : Addr) : (fC l).length < 1000 := by show 1 < 1000; decide
theorem len_put (f : Str) (v : V) (fs : List (Str × V)) {n : Nat} (h : fs.length ≤ n) : (putF f v fs).length ≤ n + 1 := Nat.le_trans (length_putF f v fs) (Nat.succ_le_succ h)
/-! what stands in the heap -/
def CntAt (Cl : Nat → Addr) (H : Hp) (p l : Addr) (ws : List Int) : Prop := (∃ dx, H p = some (.ins (Cl 0) dx (fC l))) ∧ H l = some (.lst (ws.map V.int))
theorem CntAt.ext {Cl : Nat → Addr} {H H' : Hp} {p l : Addr} {ws : List Int} (e : Ex H H') (h : CntAt Cl H p l ws) : CntAt Cl H' p l ws := by
  obtain ⟨⟨dx, h1⟩, h2⟩ := h
  exact ⟨⟨dx, e _ _ h1⟩, e _ _ h2⟩
/-- a model m stands at p; all its objects are in F -/
def MAt (Cl : Nat → Addr) (H : Hp) (p : Addr) (m : Md) (F : Addr → Prop) : Prop :=
  (m.kind = 0 ∧ ∃ ws l, m.rows = [ws] ∧ m.now = 0 ∧ CntAt Cl H p l ws ∧ F = fun b => b = p ∨ b = l) ∨ False
theorem MAt.ext {Cl : Nat → Addr} {H H' : Hp} {p : Addr} {m : Md} {F : Addr → Prop} (e : Ex H H') (h : MAt Cl H p m F) : MAt Cl H' p m F := by
  rcases h with ⟨k, ws, l, a, b, c, d⟩ | h
  · exact .inl ⟨k, ws, l, a, b, c.ext e, d⟩
  · exact h.elim
theorem MAt.foot {Cl : Nat → Addr} {H : Hp} {p : Addr} {m : Md} {F : Addr → Prop} (h : MAt Cl H p m F) : ∀ b, F b → H b ≠ none := by
  rcases h with ⟨k, ws, l, a, b, ⟨⟨dx, c⟩, c2⟩, rfl⟩ | h
  · rintro b (rfl | rfl)
    · rw [c]
      exact Option.some_ne_none _
    · rw [c2]
      exact Option.some_ne_none _
  · exact h.elim
theorem MAt.kd {Cl : Nat → Addr} {H : Hp} {p : Addr} {m : Md} {F : Addr → Prop} (h : MAt Cl H p m F) : m.kind = 0 := h.elim (fun x => x.1) False.elim
section
variable {P : Program} {w : World} {K : PySem.W.Frag} {mg : Str → Option Value} {base : Heap} {Cl : Nat → Addr}
/-! ### the two helpers -/
def spLowIn (K : PySem.W.Frag) : Sp := fun vs H Q _ => ∃ (l : Addr) (ws : List Int) (s : Nat), vs = [.ref l, .int (s : Int)] ∧ SqL K H l (ws.map V.int) ∧ RetV (.int (ws.take s).sum) H Q
theorem ok_low_in {f : Addr} {fd : FuncData} {k : Nat} (F : Fun K "low_in" "low_in" s_low_in f fd) (B : Bs mg) : FnOk P w K mg base CX0 (k + 1) f fd ["weights", "symbol"] (spLowIn K) := by
  refine F.ok sc_low_in (fun vs H Q E h => ?_) (fun cdv A outer s H vs Q E hr h => ?_)
  · obtain ⟨l, ws, s, rfl, _⟩ := h
    rfl
  · obtain ⟨l, ws, s, rfl, hs, q⟩ := h
    refine ⟨_, (pss_one (ps_ret (pe_callB (cr_sum rfl) (by rfl) B.sum (by decide +kernel) (pa_cons (pe_slice sl_list (pv 0) po_none (po_some (pv 1))) pa_nil)))), ?_⟩
    refine s_ret (ev_sumL (ns := ws.take s) ?_) fun H1 e1 => q H1 e1
    rw [List.map_take, ← cutV_to]
    exact el_sl (ev_var rfl) eo_none (eo_some (ev_var rfl)) hs
theorem spv_low_in {H : Hp} {l : Addr} {ws : List Int} {s : Nat} (hs : SqL K H l (ws.map V.int)) : SpV (spLowIn K) ([.ref l, .int (s : Int)] ++ []) H (.int (ws.take s).sum) := fun H1 e1 Q q E => ⟨l, ws, s, rfl, ex_l e1 hs, q⟩
def spSymIn (K : PySem.W.Frag) : Sp := fun vs H Q _ => ∃ (l : Addr) (ws : List Int) (x : Int), vs = [.ref l, .int x] ∧ SqL K H l (ws.map V.int) ∧ (∀ y ∈ ws, 0 ≤ y) ∧ 0 ≤ x ∧ x < ws.sum ∧ RetV (.int (symAt ws x : Int)) H Q
theorem ok_symbol_in {f : Addr} {fd : FuncData} {k : Nat} (F : Fun K "symbol_in" "symbol_in" s_symbol_in f fd) (B : Bs mg) : FnOk P w K mg base CX0 (k + 1) f fd ["weights", "number"] (spSymIn K) := by
  refine F.ok sc_symbol_in (fun vs H Q E h => ?_) (fun cdv A outer s H vs Q E hr h => ?_)
  · obtain ⟨l, ws, s, rfl, _⟩ := h
    rfl
  · obtain ⟨l, ws, x, rfl, hs, h0, hx0, hx, q⟩ := h
    refine ⟨_, (pss_cons (ps_set (i := 2) sc_symbol_in.nd rfl (Or.inl rfl) pe_int)
      (pss_cons (ps_for PassesOwn.never rfl (pi_enum (by rfl) B.enumerate (pa_cons (pv 0) pa_nil)) (pg_tup rfl (pgs_cons (pg_name (i := 3) sc_symbol_in.nd rfl (Or.inl rfl)) (pgs_cons (pg_name (i := 4) sc_symbol_in.nd rfl (Or.inl rfl)) pgs_nil))) (pss_cons (ps_aug (i := 2) sc_symbol_in.nd rfl (Or.inl rfl) (pv 4) ip_add)
      (pss_one (ps_if (pt_cmpR op_lt (pv 1) (pv 2) (nomark _)) (pss_one (ps_ret (pv 3))) pss_nil))))
      (pss_one (ps_ret pe_non)))), ?_⟩
    refine q_asg (v := .int 0) ev_c fun H1 e1 => ?_
    obtain ⟨hk1, hk2, hk3⟩ := symAt_spec ws x h0 hx0 hx
    refine q_forEn (ev_var rfl) (ex_l e1 hs) (fun i σ H' => i ≤ symAt ws x ∧ ∃ a b, σ = [some (.ref l), some (.int x), some (.int (ws.take i).sum), a, b] ∧ Ex H H') (fun H2 e2 => ⟨Nat.zero_le _, none, none, rfl, e1.trans e2⟩) (fun i σ' H' ⟨_, _, _, _, e⟩ => ex_l e hs) ?_ ?_
    · rintro i v σ H' H2 hv ⟨hi, a, b, rfl, eh⟩ e2
      have hil : i < ws.length := by omega
      have hvi : v = .int (ws.getD i 0) := by
        rw [int_at hil] at hv
        exact (Option.some.inj hv).symm
      subst hvi
      have hsum := sum_take_succ ws i hil
      refine q_aug (a := (ws.take i).sum) (b := ws.getD i 0) rfl (ev_var rfl) fun H3 e3 => ?_
      rw [← hsum]
      refine s_when (et_test (ev_lt (ev_var rfl) (ev_var rfl))) (fun hb H4 e4 => ?_) (fun hb H4 e4 => ?_)
      · have hlt : x < (ws.take (i + 1)).sum := of_decide_eq_true hb
        have hie : i = symAt ws x := by
          by_cases z : i = symAt ws x
          · exact z
          · rcases symAt_before ws x (i + 1) h0 (by omega) with y | y
            · omega
            · omega
        rw [hie]
        exact s_ret (ev_var rfl) fun H5 e5 => q H5 (((eh.trans e2).trans e3).trans (e4.trans e5))
      · have hge : ¬ x < (ws.take (i + 1)).sum := of_decide_eq_false hb
        refine ⟨?_, _, _, rfl, ((eh.trans e2).trans e3).trans e4⟩
        by_cases z : i = symAt ws x
        · rw [z] at hge
          exact absurd hk3 hge
        · omega
    · rintro σ H' ⟨hi, _⟩
      rw [List.length_map] at hi
      omega
theorem spv_symbol_in {H : Hp} {l : Addr} {ws : List Int} {x : Int} (hs : SqL K H l (ws.map V.int)) (h0 : ∀ y ∈ ws, 0 ≤ y) (hx0 : 0 ≤ x) (hx : x < ws.sum) : SpV (spSymIn K) ([.ref l, .int x] ++ []) H (.int (symAt ws x : Int)) := fun H1 e1 Q q E => ⟨l, ws, x, rfl, ex_l e1 hs, h0, hx0, hx, q⟩
end
end K13
set_option Elab.async false
set_option linter.all false
set_option maxRecDepth 100000
set_option maxHeartbeats 4000000
namespace K13
open PySem PySem.Spec PyProof.Rows L2 StX GX KC Evl M08
/-! ### the promises of the methods, by the kind of the model -/
def spSize (Cl : Nat → Addr) (i : Nat) : Sp := fun vs H Q _ => ∃ (p : Addr) (m : Md) (F : Addr → Prop) (n : Nat), vs = [.ref p] ∧ m.kind = i ∧ MAt Cl H p m F ∧ Ok n m ∧ RetV (.int (n : Int)) H Q
def spTotal (Cl : Nat → Addr) (i : Nat) : Sp := fun vs H Q _ => ∃ (p : Addr) (m : Md) (F : Addr → Prop) (n : Nat), vs = [.ref p] ∧ m.kind = i ∧ MAt Cl H p m F ∧ Ok n m ∧ RetV (.int m.row.sum) H Q
def spLow (Cl : Nat → Addr) (i : Nat) : Sp := fun vs H Q _ => ∃ (p : Addr) (m : Md) (F : Addr → Prop) (n s : Nat), vs = [.ref p, .int (s : Int)] ∧ m.kind = i ∧ MAt Cl H p m F ∧ Ok n m ∧ RetV (.int (m.row.take s).sum) H Q
def spWeight (Cl : Nat → Addr) (i : Nat) : Sp := fun vs H Q _ => ∃ (p : Addr) (m : Md) (F : Addr → Prop) (n s : Nat), vs = [.ref p, .int (s : Int)] ∧ m.kind = i ∧ MAt Cl H p m F ∧ Ok n m ∧ s < n ∧ RetV (.int (m.row.getD s 0)) H Q
def spSym (Cl : Nat → Addr) (i : Nat) : Sp := fun vs H Q _ => ∃ (p : Addr) (m : Md) (F : Addr → Prop) (n : Nat) (x : Int), vs = [.ref p, .int x] ∧ m.kind = i ∧ MAt Cl H p m F ∧ Ok n m ∧ 0 ≤ x ∧ x < m.row.sum ∧ RetV (.int (symAt m.row x : Int)) H Q
def spLearn (Cl : Nat → Addr) (i : Nat) : Sp := fun vs H Q _ => ∃ (p : Addr) (m : Md) (F : Addr → Prop) (n s : Nat), vs = [.ref p, .int (s : Int)] ∧ m.kind = i ∧ MAt Cl H p m F ∧ Ok n m ∧ s < n ∧
  ∀ H' F', MAt Cl H' p (m.learn s) F' → Kp F H H' → (∀ b, F' b → F b ∨ H b = none) → Q .non H'
def spFresh (Cl : Nat → Addr) (i : Nat) : Sp := fun vs H Q _ => ∃ (p : Addr) (m : Md) (F : Addr → Prop) (n : Nat), vs = [.ref p] ∧ m.kind = i ∧ MAt Cl H p m F ∧ Ok n m ∧
  ∀ p' H' F', Ex H H' → MAt Cl H' p' m.fresh F' → (∀ b, F' b → H b = none) → Q (.ref p') H'
def spInitC (K : PySem.W.Frag) (Cl : Nat → Addr) : Sp := fun vs H Q _ => ∃ (p a dx : Addr) (ws : List Int), vs = [.ref p, .ref a] ∧ H p = some (.ins (Cl 0) dx []) ∧ SqL K H a (ws.map V.int) ∧
  ∀ H' l, H l = none → CntAt Cl H' p l ws → Kp (fun b => b = p) H H' → Q .non H'
theorem MAt.k0 {Cl : Nat → Addr} {H : Hp} {p : Addr} {m : Md} {F : Addr → Prop} (h : MAt Cl H p m F) (k : m.kind = 0) : ∃ ws l, m.rows = [ws] ∧ m.now = 0 ∧ m.row = ws ∧ CntAt Cl H p l ws ∧ F = fun b => b = p ∨ b = l := by
  rcases h with ⟨_, ws, l, a, b, c, d⟩ | h
  · exact ⟨ws, l, a, b, by unfold Md.row; rw [a, b] <;> rfl, c, d⟩
  · exact h.elim
section
variable {P : Program} {w : World} {K : PySem.W.Frag} {mg : Str → Option Value} {base : Heap} {Cl : Nat → Addr}
abbrev LowIn (P : Program) (w : World) (K : PySem.W.Frag) (mg : Str → Option Value) (base : Heap) : Prop := Cal P w K mg base "low_in" 1 ["weights", "symbol"] (spLowIn K)
abbrev SymIn (P : Program) (w : World) (K : PySem.W.Frag) (mg : Str → Option Value) (base : Heap) : Prop := Cal P w K mg base "symbol_in" 1 ["weights", "number"] (spSymIn K)
theorem ok_Counts_size {f : Addr} {fd : FuncData} {k : Nat} (F : Fun K "size" "Counts.size" s_Counts_size f fd) (B : Bs mg) (T : Txt K Cl) : FnOk P w K mg base CX0 (k + 1) f fd ["self"] (spSize Cl 0) := by
  refine F.ok sc_Counts_size (fun vs H Q E h => ?_) (fun cdv A outer s H vs Q E hr h => ?_)
  · obtain ⟨p, m, Fp, n, rfl, _⟩ := h
    rfl
  · obtain ⟨p, m, Fp, n, rfl, hk, hm, hok, h⟩ := h
    obtain ⟨ws, l, e1, e2, erow, ⟨⟨dx, hp⟩, hl⟩, eF⟩ := hm.k0 hk
    have hrow := hok.row
    rw [erow] at hrow
    refine ⟨_, (pss_one (ps_ret (pe_callB call_len_seq (by rfl) B.len PySem.boot_len (pa_cons (pe_fld (pv 0) rfl) pa_nil)))), ?_⟩
    refine s_ret (ev_is (ev_len (K := K) (ev_fld (ev_var rfl) hp T.c0 T.w0 (fC_w l)) (sq_of hl)) (by rw [List.length_map, hrow.1])) fun H1 e1 => h H1 e1
theorem ok_Counts_total {f : Addr} {fd : FuncData} {k : Nat} (F : Fun K "total" "Counts.total" s_Counts_total f fd) (B : Bs mg) (T : Txt K Cl) : FnOk P w K mg base CX0 (k + 1) f fd ["self"] (spTotal Cl 0) := by
  refine F.ok sc_Counts_total (fun vs H Q E h => ?_) (fun cdv A outer s H vs Q E hr h => ?_)
  · obtain ⟨p, m, Fp, n, rfl, _⟩ := h
    rfl
  · obtain ⟨p, m, Fp, n, rfl, hk, hm, hok, h⟩ := h
    obtain ⟨ws, l, e1, e2, erow, ⟨⟨dx, hp⟩, hl⟩, eF⟩ := hm.k0 hk
    have hrow := hok.row
    rw [erow] at hrow
    refine ⟨_, (pss_one (ps_ret (pe_callB (cr_sum rfl) (by rfl) B.sum (by decide +kernel) (pa_cons (pe_fld (pv 0) rfl) pa_nil)))), ?_⟩
    rw [erow] at h
    exact s_ret (ev_sumLa (ev_fld (ev_var rfl) hp T.c0 T.w0 (fC_w l)) (sq_of hl)) fun H1 e1 => h H1 e1
theorem ok_Counts_low {f : Addr} {fd : FuncData} {k : Nat} (F : Fun K "low" "Counts.low" s_Counts_low f fd) (B : Bs mg) (T : Txt K Cl) (C_low_in : LowIn P w K mg base) : FnOk P w K mg base CX0 (k + 2) f fd ["self", "symbol"] (spLow Cl 0) := by
  refine F.ok sc_Counts_low (fun vs H Q E h => ?_) (fun cdv A outer s H vs Q E hr h => ?_)
  · obtain ⟨p, m, Fp, n, s_, rfl, _⟩ := h
    rfl
  · obtain ⟨p, m, Fp, n, s_, rfl, hk, hm, hok, h⟩ := h
    obtain ⟨ws, l, e1, e2, erow, ⟨⟨dx, hp⟩, hl⟩, eF⟩ := hm.k0 hk
    have hrow := hok.row
    rw [erow] at hrow
    refine ⟨_, (pss_one (ps_ret (pe_callC C_low_in (hr.mono (by omega)) (by rfl) (pa_cons (pe_fld (pv 0) rfl) (pa_cons (pv 1) pa_nil))))), ?_⟩
    rw [erow] at h
    exact s_ret (ev_call (ea2 (ev_fld (ev_var rfl) hp T.c0 T.w0 (fC_w l)) (ev_var rfl)) (spv_low_in (sq_of hl))) fun H1 e1 => h H1 e1
theorem ok_Counts_weight {f : Addr} {fd : FuncData} {k : Nat} (F : Fun K "weight" "Counts.weight" s_Counts_weight f fd) (B : Bs mg) (T : Txt K Cl) : FnOk P w K mg base CX0 (k + 1) f fd ["self", "symbol"] (spWeight Cl 0) := by
  refine F.ok sc_Counts_weight (fun vs H Q E h => ?_) (fun cdv A outer s H vs Q E hr h => ?_)
  · obtain ⟨p, m, Fp, n, s_, rfl, _⟩ := h
    rfl
  · obtain ⟨p, m, Fp, n, s_, rfl, hk, hm, hok, h⟩ := h
    obtain ⟨ws, l, e1, e2, erow, ⟨⟨dx, hp⟩, hl⟩, eF⟩ := hm.k0 hk
    have hrow := hok.row
    rw [erow] at hrow
    refine ⟨_, (pss_one (ps_ret (pe_ix ix_list (pe_fld (pv 0) rfl) (pv 1) (fun _ _ => rfl)))), ?_⟩
    obtain ⟨hs, h⟩ := h
    rw [erow] at h
    have hsl : s_ < ws.length := by rw [hrow.1]; exact hs
    exact s_ret (ev_op (ev_fld (ev_var rfl) hp T.c0 T.w0 (fC_w l)) (ev_var (v := .int (s_ : Int)) rfl) (rv_ixL (sq_of hl) (atI_at rfl hsl))) fun H1 e1 => h H1 e1
theorem ok_Counts_symbol_at {f : Addr} {fd : FuncData} {k : Nat} (F : Fun K "symbol_at" "Counts.symbol_at" s_Counts_symbol_at f fd) (B : Bs mg) (T : Txt K Cl) (C_symbol_in : SymIn P w K mg base) : FnOk P w K mg base CX0 (k + 2) f fd ["self", "number"] (spSym Cl 0) := by
  refine F.ok sc_Counts_symbol_at (fun vs H Q E h => ?_) (fun cdv A outer s H vs Q E hr h => ?_)
  · obtain ⟨p, m, Fp, n, x, rfl, _⟩ := h
    rfl
  · obtain ⟨p, m, Fp, n, x, rfl, hk, hm, hok, h⟩ := h
    obtain ⟨ws, l, e1, e2, erow, ⟨⟨dx, hp⟩, hl⟩, eF⟩ := hm.k0 hk
    have hrow := hok.row
    rw [erow] at hrow
    refine ⟨_, (pss_one (ps_ret (pe_callC C_symbol_in (hr.mono (by omega)) (by rfl) (pa_cons (pe_fld (pv 0) rfl) (pa_cons (pv 1) pa_nil))))), ?_⟩
    obtain ⟨h0, h1, h⟩ := h
    rw [erow] at h h1
    exact s_ret (ev_call (ea2 (ev_fld (ev_var rfl) hp T.c0 T.w0 (fC_w l)) (ev_var rfl)) (spv_symbol_in (sq_of hl) hrow.2.1 h0 h1)) fun H1 e1 => h H1 e1
theorem ok_Counts_init {f : Addr} {fd : FuncData} {k : Nat} (F : Fun K "__init__" "Counts.__init__" s_Counts_init f fd) (B : Bs mg) (T : Txt K Cl) : FnOk P w K mg base CX0 (k + 1) f fd ["self", "weights"] (spInitC K Cl) := by
  refine F.ok sc_Counts_init (fun vs H Q E h => ?_) (fun cdv A outer s H vs Q E hr h => ?_)
  · obtain ⟨p, a, dx, ws, rfl, _⟩ := h
    rfl
  · obtain ⟨p, a, dx, ws, rfl, hp, hs, q⟩ := h
    refine ⟨_, (pss_one (ps_fld (pv 0) (pe_callTy call_list_of (by rfl) B.list (by decide +kernel) (pa_cons (pv 1) pa_nil)) rfl)), ?_⟩
    refine s_fldL (el_listOf (ev_var rfl) hs) (ev_var rfl) hp T.c0 T.w0 (by show 0 < 1000; decide) fun l H1 nl e1 h1 => ?_
    have hpl : l ≠ p := fun z => by rw [z, hp] at nl; cases nl
    exact q _ l nl ⟨⟨dx, upd_same⟩, by rw [upd_ne hpl]; exact h1⟩ ((Kp.of_ex e1).put rfl)
end
end K13
set_option Elab.async false
set_option linter.all false
set_option maxRecDepth 100000
set_option maxHeartbeats 4000000
namespace K13
open PySem PySem.Spec PyProof.Rows L2 StX GX KC Evl M08
theorem kp_ex {H1 H2 H' : Hp} {x : Addr} (nx : H1 x = none) (e : Ex H1 H2) (k : Kp (fun b => b = x) H2 H') : Ex H1 H' := fun b o h => k b o (e b o h) fun z => by
  rw [z, nx] at h
  cases h
section
variable {P : Program} {w : World} {K : PySem.W.Frag} {mg : Str → Option Value} {base : Heap} {Cl : Nat → Addr} {σ : L2.St} {H : Hp} {t : TA}
theorem ep_counts {a : Addr} {ws : List Int} (ha : EvA t σ H [.ref a]) (hs : SqL K H a (ws.map V.int)) : EvP (tMake (Cl 0) (spInitC K Cl) [] E0 t) σ H (fun v H' => ∃ p l, v = .ref p ∧ CntAt Cl H' p l ws ∧ H p = none ∧ H l = none) :=
  ev_make ha fun H1 x dx e nx nd ne Q q => ⟨x, a, dx, ws, rfl, upd_same, ex_l (e.trans (made_ex nx nd)) hs, fun H' l nl hc kp =>
    q H' (kp_ex nx (made_ex nx nd) kp) ⟨x, l, rfl, hc, fresh_back e nx, fresh_back (e.trans (made_ex nx nd)) nl⟩⟩
/-! ### learn and fresh of a Counts -/
theorem ok_Counts_learn {f : Addr} {fd : FuncData} {k : Nat} (F : Fun K "learn" "Counts.learn" s_Counts_learn f fd) (B : Bs mg) : FnOk P w K mg base CX0 (k + 1) f fd ["self", "symbol"] (spLearn Cl 0) := by
  refine F.ok sc_Counts_learn (fun vs H Q E h => ?_) (fun cdv A outer s H vs Q E hr h => ?_)
  · obtain ⟨p, m, Fp, n, s_, rfl, _⟩ := h
    rfl
  · obtain ⟨p, m, Fp, n, s_, rfl, hk, hm, hok, hs, q⟩ := h
    refine ⟨_, (pss_one (ps_ret pe_non)), ?_⟩
    refine s_ret ev_c fun H1 e1 => q H1 Fp ?_ (Kp.of_ex e1) fun b hb => .inl hb
    have e : m.learn s_ = m := by
      unfold Md.learn
      rw [if_pos hk]
    rw [e]
    exact hm.ext e1
theorem ok_Counts_fresh {f : Addr} {fd : FuncData} {k : Nat} (F : Fun K "fresh" "Counts.fresh" s_Counts_fresh f fd) (B : Bs mg) (T : Txt K Cl) (N_Counts : CalM P w K mg base "Counts" (Cl 0) 1 ["self", "weights"] (spInitC K Cl)) : FnOk P w K mg base CX0 (k + 3) f fd ["self"] (spFresh Cl 0) := by
  refine F.ok sc_Counts_fresh (fun vs H Q E h => ?_) (fun cdv A outer s H vs Q E hr h => ?_)
  · obtain ⟨p, m, Fp, n, rfl, _⟩ := h
    rfl
  · obtain ⟨p, m, Fp, n, rfl, hk, hm, hok, q⟩ := h
    obtain ⟨ws, l, e1, e2, erow, ⟨⟨dx, hp⟩, hl⟩, eF⟩ := hm.k0 hk
    refine ⟨_, (pss_one (ps_ret (pe_makeC N_Counts (hr.mono (by omega)) (by rfl) (pa_cons (pe_fld (pv 0) rfl) pa_nil)))), ?_⟩
    refine s_retP (ep_counts (ea1 (ev_fld (ev_var rfl) hp T.c0 T.w0 (fC_w l))) (sq_of hl)) fun v H1 ex ⟨p2, l2, ev, hc, n1, n2⟩ => ?_
    subst ev
    refine q p2 H1 (fun b => b = p2 ∨ b = l2) ex ?_ fun b hb => ?_
    · have e : m.fresh = m := by
        unfold Md.fresh
        rw [if_pos hk]
      rw [e]
      exact .inl ⟨hk, ws, l2, e1, e2, hc, rfl⟩
    · rcases hb with rfl | rfl
      · exact n1
      · exact n2
/-! ### learn and fresh of a Learner -/
end
end K13
set_option Elab.async false
set_option linter.all false
set_option maxRecDepth 100000
set_option maxHeartbeats 4000000
namespace K13
open PySem PySem.Spec PyProof.Rows L2 StX GX KC Evl M08
section
variable {P : Program} {w : World} {K : PySem.W.Frag} {mg : Str → Option Value} {base : Heap} {Cl : Nat → Addr} {H : Hp}
theorem kp_none {F : Addr → Prop} {H H' : Hp} {b : Addr} (k : Kp F H H') (h : H' b = none) (hf : ¬ F b) : H b = none := by
  cases z : H b with
  | none => rfl
  | some o =>
    rw [k b o z hf] at h
    cases h
theorem ok_cell {f : Addr} {fd : FuncData} {k : Nat} (F : Fun K "_law_cell" "_law_cell" s_law_cell f fd) (B : Bs mg) : FnOk P w K mg base CX0 (k + 1) f fd ["script", "k"] (spCell K) := by
  refine F.ok sc_law_cell (fun vs H Q E h => ?_) (fun cdv A outer s H vs Q E hr h => ?_)
  · obtain ⟨l, ns, j, rfl, _⟩ := h
    rfl
  · obtain ⟨l, ns, j, rfl, hs, q⟩ := h
    refine ⟨_, (pss_cons (ps_if (pt_cmpR op_lt (pv 1) (pe_callB call_len_seq (by rfl) B.len PySem.boot_len (pa_cons (pv 0) pa_nil)) (nomark _)) (pss_one (ps_ret (pe_callTy call_int1 (by rfl) B.int (by decide +kernel) (pa_cons (pe_ix ix_list (pv 0) (pv 1) (fun _ _ => rfl)) pa_nil)))) pss_nil)
      (pss_one (ps_ret pe_int))), ?_⟩
    refine ⟨_, rfl, _, rfl, l, _, rfl, .inl hs, _, _, rfl, rfl, _, rfl, ?_⟩
    by_cases hj : j < ns.length
    · have hd : decide ((j : Int) < ((ns.map V.int).length : Int)) = true := decide_eq_true (by rw [List.length_map]; omega)
      rw [hd]
      exact ⟨_, rfl, _, rfl, l, _, _, _, rfl, rfl, hs, atI_cell hj, .inl ⟨_, rfl, q⟩⟩
    · have hd : decide ((j : Int) < ((ns.map V.int).length : Int)) = false := decide_eq_false (by rw [List.length_map]; omega)
      rw [hd]
      rw [cell_out hj] at q
      exact q
theorem spv_cell {H : Hp} {l : Addr} {ns : List Int} {z : Int} {j : Nat} (hs : SqL K H l (ns.map V.int)) (e : z = (j : Int)) : SpV (spCell K) ([.ref l, .int z] ++ []) H (.int (cellOf ns j)) := fun H1 e1 Q q E => ⟨l, ns, j, by rw [e]; rfl, ex_l e1 hs, q H1 (Ex.refl H1)⟩
end
end K13
set_option Elab.async false
set_option linter.all false
set_option maxRecDepth 100000
set_option maxHeartbeats 4000000
namespace K13
open PySem PySem.Spec PyProof.Rows L2 StX GX KC Evl M08
abbrev Any : Nat → Prop := fun i => i ≤ 2
section
variable {P : Program} {w : World} {K : PySem.W.Frag} {mg : Str → Option Value} {base : Heap} {Cl : Nat → Addr} {σ : L2.St} {H H' : Hp} {p d R r : Addr} {rs : List Addr} {m : Md} {n : Nat} {F : Addr → Prop}
theorem MAt.keep {H H' : Hp} {p : Addr} {m : Md} {F : Addr → Prop} (e : ∀ b o, F b → H b = some o → H' b = some o) (h : MAt Cl H p m F) : MAt Cl H' p m F := by
  rcases h with ⟨k, ws, l, a, b, ⟨⟨dx, c⟩, c2⟩, rfl⟩ | h
  · exact .inl ⟨k, ws, l, a, b, ⟨⟨dx, e _ _ (.inl rfl) c⟩, e _ _ (.inr rfl) c2⟩, rfl⟩
  · exact h.elim
theorem MAt.obj (h : MAt Cl H p m F) : ∃ dx fs, H p = some (.ins (Cl m.kind) dx fs) ∧ ∀ nm : Str, ¬ nm = "weights" → ¬ nm = "limit" → ¬ nm = "step" → ¬ nm = "learners" → ¬ nm = "current" → fs.lookup nm = none := by
  rcases h with ⟨k, ws, l, a, b, ⟨⟨dx, c⟩, c2⟩, rfl⟩ | h
  · rw [k]
    exact ⟨dx, _, c, fun nm h1 _ _ _ _ => fC_no l h1⟩
  · exact h.elim
theorem ev_m {m_ : Str} {sp : Nat → Sp} {t : TA} {ta : TE} {vs : List V} {v : V} (hm : MAt Cl H p m F) (hok : Ok n m) (ha : Ev ta σ H (.ref p)) (ht : EvA t σ H vs) (hs : SpV (sp m.kind) (.ref p :: (vs ++ [])) H v)
    (h1 : ¬ m_ = "weights" := by decide +kernel) (h2 : ¬ m_ = "limit" := by decide +kernel) (h3 : ¬ m_ = "step" := by decide +kernel) (h4 : ¬ m_ = "learners" := by decide +kernel) (h5 : ¬ m_ = "current" := by decide +kernel) : Ev (tMethD Cl Any m_ sp ta t) σ H v := by
  obtain ⟨dx, fs, hp, hn⟩ := hm.obj
  exact ev_meth (i := m.kind) ha hok.kd hp (hn _ h1 h2 h3 h4 h5) ht hs
theorem sp_size (hm : MAt Cl H p m F) (hok : Ok n m) : SpV (spSize Cl m.kind) (.ref p :: ([] ++ [])) H (.int (n : Int)) := fun H3 e3 Q q E => ⟨p, m, F, n, rfl, rfl, hm.ext e3, hok, q⟩
theorem sp_total (hm : MAt Cl H p m F) (hok : Ok n m) : SpV (spTotal Cl m.kind) (.ref p :: ([] ++ [])) H (.int m.row.sum) := fun H3 e3 Q q E => ⟨p, m, F, n, rfl, rfl, hm.ext e3, hok, q⟩
theorem sp_weight (hm : MAt Cl H p m F) (hok : Ok n m) {s : Nat} (hs : s < n) : SpV (spWeight Cl m.kind) (.ref p :: ([.int (s : Int)] ++ [])) H (.int (m.row.getD s 0)) := fun H3 e3 Q q E => ⟨p, m, F, n, s, rfl, rfl, hm.ext e3, hok, hs, q⟩
theorem sp_low (hm : MAt Cl H p m F) (hok : Ok n m) {s : Nat} : SpV (spLow Cl m.kind) (.ref p :: ([.int (s : Int)] ++ [])) H (.int (m.row.take s).sum) := fun H3 e3 Q q E => ⟨p, m, F, n, s, rfl, rfl, hm.ext e3, hok, q⟩
theorem sp_sym (hm : MAt Cl H p m F) (hok : Ok n m) {x : Int} (h0 : 0 ≤ x) (h1 : x < m.row.sum) : SpV (spSym Cl m.kind) (.ref p :: ([.int x] ++ [])) H (.int (symAt m.row x : Int)) := fun H3 e3 Q q E => ⟨p, m, F, n, x, rfl, rfl, hm.ext e3, hok, h0, h1, q⟩
abbrev DSize (P : Program) (w : World) (K : PySem.W.Frag) (mg : Str → Option Value) (base : Heap) (Cl : Nat → Addr) : Prop := MCal P w K mg base Cl Any "size" 1 ["self"] (spSize Cl)
abbrev DTotal (P : Program) (w : World) (K : PySem.W.Frag) (mg : Str → Option Value) (base : Heap) (Cl : Nat → Addr) : Prop := MCal P w K mg base Cl Any "total" 2 ["self"] (spTotal Cl)
abbrev DWeight (P : Program) (w : World) (K : PySem.W.Frag) (mg : Str → Option Value) (base : Heap) (Cl : Nat → Addr) : Prop := MCal P w K mg base Cl Any "weight" 2 ["self", "symbol"] (spWeight Cl)
abbrev DLow (P : Program) (w : World) (K : PySem.W.Frag) (mg : Str → Option Value) (base : Heap) (Cl : Nat → Addr) : Prop := MCal P w K mg base Cl Any "low" 3 ["self", "symbol"] (spLow Cl)
abbrev DSym (P : Program) (w : World) (K : PySem.W.Frag) (mg : Str → Option Value) (base : Heap) (Cl : Nat → Addr) : Prop := MCal P w K mg base Cl Any "symbol_at" 3 ["self", "number"] (spSym Cl)
abbrev DLearn (P : Program) (w : World) (K : PySem.W.Frag) (mg : Str → Option Value) (base : Heap) (Cl : Nat → Addr) : Prop := MCal P w K mg base Cl Any "learn" 3 ["self", "symbol"] (spLearn Cl)
abbrev DFresh (P : Program) (w : World) (K : PySem.W.Frag) (mg : Str → Option Value) (base : Heap) (Cl : Nat → Addr) : Prop := MCal P w K mg base Cl Any "fresh" 5 ["self"] (spFresh Cl)
end
end K13
set_option linter.all false
/-! The interval of a message, without the program. -/
namespace M09
open M08
/-! ### what holds of a model all the time -/
structure Bd (m : Md) : Prop where
  rows : ∀ r ∈ m.rows, r.sum ≤ 8000
  step : m.step ≤ 100
  limit : m.limit ≤ 8000
/-- the symbol has a weight, and keeps it -/
def Live (m : Md) (s : Nat) : Prop := ∀ r ∈ m.rows, 1 ≤ r.getD s 0
theorem half_sum : ∀ l : List Int, (l.map (fun w : Int => (w + 1) / 2)).sum * 2 ≤ l.sum + l.length
  | [] => by simp
  | a :: r => by
    have := half_sum r
    simp only [List.map_cons, List.sum_cons, List.length_cons]
    omega
theorem Bd.row {n : Nat} {m : Md} (h : Bd m) (hok : Ok n m) : m.row.sum ≤ 8000 := h.rows _ (List.mem_of_getElem? (row_at hok))
theorem Bd.learn {n : Nat} {m : Md} (h : Bd m) (hok : Ok n m) {s : Nat} (hs : s < n) : Bd (m.learn s) := by
  unfold Md.learn
  split
  · exact h
  · refine ⟨fun r hr => ?_, h.step, h.limit⟩
    rcases List.mem_or_eq_of_mem_set hr with z | z
    · exact h.rows r z
    · rw [z]
      have h1 := h.row hok
      have h2 := sum_set m.row s m.step (by rw [hok.row.1]; exact hs)
      have h3 := h.limit
      have h4 := h.step
      unfold grown
      split
      · have h5 := half_sum (m.row.set s (m.row.getD s 0 + m.step))
        rw [List.length_set, hok.row.1] at h5
        have := hok.n64
        omega
      · omega
theorem Live.learn {n : Nat} {m : Md} {a s : Nat} (h : Live m a) (hok : Ok n m) (hs : s < n) (ha : a < n) : Live (m.learn s) a := by
  unfold Md.learn
  split
  · exact h
  · intro r hr
    rcases List.mem_or_eq_of_mem_set hr with z | z
    · exact h r z
    · rw [z]
      have hl := hok.row.1
      have h1 : 1 ≤ m.row.getD a 0 := h _ (List.mem_of_getElem? (row_at hok))
      have h2 : 1 ≤ (m.row.set s (m.row.getD s 0 + m.step)).getD a 0 := by
        by_cases q : s = a
        · subst q
          rw [List.getD_eq_getElem?_getD, List.getElem?_set_self (by omega)]
          have := hok.step
          simp only [Option.getD_some]
          omega
        · rw [List.getD_eq_getElem?_getD, List.getElem?_set_ne q, ← List.getD_eq_getElem?_getD]
          exact h1
      unfold grown
      split
      · rw [List.getD_eq_getElem?_getD, List.getElem?_map]
        rw [List.getD_eq_getElem?_getD] at h2
        cases e : (m.row.set s (m.row.getD s 0 + m.step))[a]? with
        | none =>
          rw [e] at h2
          simp at h2
        | some x =>
          rw [e] at h2
          simp only [Option.getD_some, Option.map_some] at h2 ⊢
          omega
      · exact h2
theorem Live.row {n : Nat} {m : Md} {a : Nat} (h : Live m a) (hok : Ok n m) : 1 ≤ m.row.getD a 0 := h _ (List.mem_of_getElem? (row_at hok))
/-! ### the interval -/
structure T3 where
  low : Int
  width : Int
  whole : Int
def stp (t : T3) (row : List Int) (s : Nat) : T3 := ⟨t.low * row.sum + t.width * (row.take s).sum, t.width * row.getD s 0, t.whole * row.sum⟩
def itv : Md → List Nat → T3 → T3
  | _, [], t => t
  | m, s :: r, t => itv (m.learn s) r (stp t m.row s)
def mds : Md → List Nat → Md
  | m, [] => m
  | m, s :: r => mds (m.learn s) r
theorem itv_snoc : ∀ (msg : List Nat) (m : Md) (t : T3) (s : Nat), itv m (msg ++ [s]) t = stp (itv m msg t) (mds m msg).row s
  | [], m, t, s => rfl
  | a :: r, m, t, s => itv_snoc r (m.learn a) (stp t m.row a) s
theorem mds_snoc : ∀ (msg : List Nat) (m : Md) (s : Nat), mds m (msg ++ [s]) = (mds m msg).learn s
  | [], m, s => rfl
  | a :: r, m, s => mds_snoc r (m.learn a) s
/-- a message of a model -/
def Msg (n : Nat) (m : Md) (msg : List Nat) : Prop := ∀ s ∈ msg, s < n ∧ Live m s
structure Good (n : Nat) (m : Md) : Prop where
  ok : Ok n m
  bd : Bd m
theorem Good.learn {n : Nat} {m : Md} (h : Good n m) {s : Nat} (hs : s < n) : Good n (m.learn s) := ⟨h.ok.learn hs, h.bd.learn h.ok hs⟩
theorem Msg.learn {n : Nat} {m : Md} {msg : List Nat} (h : Msg n m msg) (g : Ok n m) {s : Nat} (hs : s < n) : Msg n (m.learn s) msg := fun a ha => ⟨(h a ha).1, (h a ha).2.learn g hs (h a ha).1⟩
theorem mds_good {n : Nat} : ∀ (msg : List Nat) (m : Md), Good n m → (∀ s ∈ msg, s < n) → Good n (mds m msg)
  | [], m, h, _ => h
  | s :: r, m, h, hm => mds_good r (m.learn s) (h.learn (hm s (by simp))) fun a ha => hm a (by simp [ha])
theorem mds_msg {n : Nat} : ∀ (msg : List Nat) (m : Md) (all : List Nat), Good n m → (∀ s ∈ msg, s < n) → Msg n m all → Msg n (mds m msg) all
  | [], m, all, h, _, ha => ha
  | s :: r, m, all, h, hm, ha => mds_msg r (m.learn s) all (h.learn (hm s (by simp))) (fun a h2 => hm a (by simp [h2])) (ha.learn h.ok (hm s (by simp)))
theorem mds_fresh {n : Nat} : ∀ (msg : List Nat) (m : Md), Good n m → (∀ s ∈ msg, s < n) → (mds m msg).fresh = m.fresh
  | [], m, h, _ => rfl
  | s :: r, m, h, hm => (mds_fresh r (m.learn s) (h.learn (hm s (by simp))) fun a ha => hm a (by simp [ha])).trans (learn_fresh h.ok (hm s (by simp)))
/-- a triple that is an interval, with k symbols behind it -/
structure Tr (k : Nat) (t : T3) : Prop where
  low : 0 ≤ t.low
  width : 1 ≤ t.width
  whole : t.low + t.width ≤ t.whole
  bound : t.whole < 2 ^ (13 * k + 1)
theorem two_split (k : Nat) : (2 : Int) ^ (13 * (k + 1) + 1) = 2 ^ (13 * k + 1) * 8192 := by
  rw [show 13 * (k + 1) + 1 = (13 * k + 1) + 13 by omega, Int.pow_add]
  rfl
theorem stp_tr {n k : Nat} {t : T3} {row : List Int} {s : Nat} (h : Tr k t) (hr : RowOk n row) (hb : row.sum ≤ 8000) (hs : s < n) (hl : 1 ≤ row.getD s 0) : Tr (k + 1) (stp t row s) := by
  obtain ⟨h1, h2, h3, h4⟩ := h
  have a1 := take_nonneg hr.2.1 s
  have a2 := sum_take_succ row s (by rw [hr.1]; exact hs)
  have a3 : (row.take (s + 1)).sum ≤ row.sum := by
    have e : row.sum = (row.take (s + 1)).sum + (row.drop (s + 1)).sum := by rw [← List.sum_append, List.take_append_drop]
    have := sum_nonneg (row.drop (s + 1)) fun x hx => hr.2.1 x (List.mem_of_mem_drop hx)
    omega
  have a4 := hr.2.2
  refine ⟨?_, ?_, ?_, ?_⟩
  · show 0 ≤ t.low * row.sum + t.width * (row.take s).sum
    have := Int.mul_nonneg h1 (show 0 ≤ row.sum by omega)
    have := Int.mul_nonneg (show 0 ≤ t.width by omega) a1
    omega
  · show 1 ≤ t.width * row.getD s 0
    have := Int.mul_le_mul h2 hl (by decide) (by omega)
    omega
  · show t.low * row.sum + t.width * (row.take s).sum + t.width * row.getD s 0 ≤ t.whole * row.sum
    have b1 : t.width * (row.take s).sum + t.width * row.getD s 0 = t.width * (row.take (s + 1)).sum := by rw [a2, Int.mul_add]
    have b2 : t.width * (row.take (s + 1)).sum ≤ t.width * row.sum := Int.mul_le_mul_of_nonneg_left a3 (by omega)
    have b3 : t.low * row.sum + t.width * row.sum = (t.low + t.width) * row.sum := by rw [Int.add_mul]
    have b4 : (t.low + t.width) * row.sum ≤ t.whole * row.sum := Int.mul_le_mul_of_nonneg_right h3 (by omega)
    omega
  · show t.whole * row.sum < 2 ^ (13 * (k + 1) + 1)
    rw [two_split]
    have c1 : t.whole * row.sum ≤ t.whole * 8192 := Int.mul_le_mul_of_nonneg_left (by omega) (by omega)
    have c2 : t.whole * 8192 < 2 ^ (13 * k + 1) * 8192 := Int.mul_lt_mul_of_pos_right h4 (by decide)
    omega
theorem itv_tr {n : Nat} : ∀ (msg : List Nat) (m : Md) (t : T3) (k : Nat), Good n m → Msg n m msg → Tr k t → Tr (k + msg.length) (itv m msg t)
  | [], m, t, k, _, _, h => h
  | s :: r, m, t, k, g, hm, h => by
    have hs := hm s (by simp)
    have hr : Msg n m r := fun a ha => hm a (by simp [ha])
    have := itv_tr r (m.learn s) (stp t m.row s) (k + 1) (g.learn hs.1) (hr.learn g.ok hs.1) (stp_tr h g.ok.row (g.bd.row g.ok) hs.1 (hs.2.row g.ok))
    rw [List.length_cons, show k + (r.length + 1) = k + 1 + r.length by omega]
    exact this
theorem tr0 : Tr 0 ⟨0, 1, 1⟩ := ⟨by decide, by decide, by decide, by decide⟩
/-! ### the least exponent, the shortest bits -/
def ins (t : T3) (v : Int) (c : Nat) : Prop := t.low * 2 ^ c ≤ v * t.whole ∧ (v + 1) * t.whole ≤ (t.low + t.width) * 2 ^ c
instance (t : T3) (v : Int) (c : Nat) : Decidable (ins t v c) := by unfold ins; infer_instance
def firstN (t : T3) (c : Nat) : Int := (t.low * 2 ^ c + t.whole - 1) / t.whole
theorem first_spec {k : Nat} {t : T3} (h : Tr k t) (c : Nat) : t.low * 2 ^ c ≤ firstN t c * t.whole ∧ firstN t c * t.whole < t.low * 2 ^ c + t.whole := by
  have hw : 0 < t.whole := by have := h.low; have := h.width; have := h.whole; omega
  unfold firstN
  generalize t.low * 2 ^ c = y
  have e := Int.emod_add_mul_ediv (y + t.whole - 1) t.whole
  have e1 := Int.emod_nonneg (y + t.whole - 1) (show t.whole ≠ 0 by omega)
  have e2 := Int.emod_lt_of_pos (y + t.whole - 1) hw
  rw [Int.mul_comm t.whole] at e
  omega
theorem first_le {k : Nat} {t : T3} (h : Tr k t) {c : Nat} {v : Int} (hv : t.low * 2 ^ c ≤ v * t.whole) : firstN t c ≤ v := by
  have hw : 0 < t.whole := by have := h.low; have := h.width; have := h.whole; omega
  have h2 := (first_spec h c).2
  by_cases z : firstN t c ≤ v
  · exact z
  · have : v + 1 ≤ firstN t c := by omega
    have h3 : (v + 1) * t.whole ≤ firstN t c * t.whole := Int.mul_le_mul_of_nonneg_right this (by omega)
    rw [Int.add_mul, Int.one_mul] at h3
    omega
theorem first_nonneg {k : Nat} {t : T3} (h : Tr k t) (c : Nat) : 0 ≤ firstN t c := by
  have hw : 0 < t.whole := by have := h.low; have := h.width; have := h.whole; omega
  unfold firstN
  refine Int.ediv_nonneg ?_ (by omega)
  have : 0 ≤ t.low * 2 ^ c := Int.mul_nonneg h.low (Int.pow_nonneg (by decide))
  omega
theorem ins_first {k : Nat} {t : T3} (h : Tr k t) {c : Nat} {v : Int} (hv : ins t v c) : ins t (firstN t c) c := by
  have hw : 0 < t.whole := by have := h.low; have := h.width; have := h.whole; omega
  have h1 := first_le h hv.1
  refine ⟨(first_spec h c).1, Int.le_trans ?_ hv.2⟩
  exact Int.mul_le_mul_of_nonneg_right (by omega) (by omega)
theorem ins_wide {k : Nat} {t : T3} (h : Tr k t) {c : Nat} (hc : 2 * t.whole ≤ t.width * 2 ^ c) : ins t (firstN t c) c := by
  have h2 := first_spec h c
  refine ⟨h2.1, ?_⟩
  rw [Int.add_mul, Int.add_mul, Int.one_mul]
  omega
theorem ins_need {t : T3} {v : Int} {c : Nat} (h : ins t v c) : t.whole ≤ t.width * 2 ^ c := by
  obtain ⟨h1, h2⟩ := h
  rw [Int.add_mul, Int.add_mul, Int.one_mul] at h2
  omega
theorem ins_lt {k : Nat} {t : T3} (h : Tr k t) {v : Int} {c : Nat} (hv : ins t v c) : v < 2 ^ c := by
  have hw : 0 < t.whole := by have := h.low; have := h.width; have := h.whole; omega
  have h2 := hv.2
  have h3 : (t.low + t.width) * 2 ^ c ≤ t.whole * 2 ^ c := Int.mul_le_mul_of_nonneg_right h.whole (Int.pow_nonneg (by decide))
  have h4 : (v + 1) * t.whole ≤ 2 ^ c * t.whole := by
    rw [Int.mul_comm (2 ^ c)]
    omega
  have := Int.le_of_mul_le_mul_right h4 hw
  omega
theorem not_ins_pred {k : Nat} {t : T3} (h : Tr k t) {c : Nat} : ¬ ins t (firstN t c - 1) c := fun z => by
  have := first_le h z.1
  omega
/-- e is the least exponent -/
def Lst (t : T3) (e : Nat) : Prop := t.whole ≤ t.width * 2 ^ e ∧ ∀ j, j < e → t.width * 2 ^ j < t.whole
/-- the code: c bits of v -/
def codeC (t : T3) (e : Nat) : Nat := if ins t (firstN t e) e then e else e + 1
theorem code_ins {k : Nat} {t : T3} (h : Tr k t) {e : Nat} (he : Lst t e) : ins t (firstN t (codeC t e)) (codeC t e) := by
  unfold codeC
  split
  · assumption
  · refine ins_wide h ?_
    rw [Int.pow_succ, ← Int.mul_assoc]
    have := he.1
    omega
theorem code_short {k : Nat} {t : T3} (h : Tr k t) {e : Nat} (he : Lst t e) {c : Nat} (hc : c < codeC t e) (v : Int) : ¬ ins t v c := fun z => by
  unfold codeC at hc
  split at hc
  · have := he.2 c hc
    have := ins_need z
    omega
  · rename_i q
    by_cases y : c = e
    · rw [y] at z
      exact q (ins_first h z)
    · have := he.2 c (by omega)
      have := ins_need z
      omega
theorem code_len (t : T3) (e : Nat) : e ≤ codeC t e ∧ codeC t e ≤ e + 1 := by
  unfold codeC
  split <;> omega
end M09
set_option linter.all false
/-! Decoding bits by the interval, without the program. -/
namespace M10
open M08 M09
theorem symAt_uniq : ∀ (l : List Int) (x : Int) (s : Nat), (∀ y ∈ l, 0 ≤ y) → s < l.length → (l.take s).sum ≤ x → x < (l.take (s + 1)).sum → symAt l x = s
  | [], x, s, _, h, _, _ => by simp at h
  | w :: r, x, 0, hl, h, h1, h2 => by
    unfold symAt
    simp at h2
    rw [if_pos h2]
  | w :: r, x, s + 1, hl, h, h1, h2 => by
    rw [List.take_succ_cons, List.sum_cons] at h1 h2
    have := take_nonneg (l := r) (fun y hy => hl y (by simp [hy])) s
    unfold symAt
    rw [if_neg (by omega), symAt_uniq r (x - w) s (fun y hy => hl y (by simp [hy])) (by simpa using h) (by omega) (by omega)]
def num (v : Int) (c : Nat) (row : List Int) (t : T3) : Int := (v * t.whole - t.low * 2 ^ c) * row.sum
def sOf (v : Int) (c : Nat) (row : List Int) (t : T3) : Nat := symAt row (num v c row t / (t.width * 2 ^ c))
section
variable {k n : Nat} {t : T3} {row : List Int} {v : Int} {c s : Nat}
theorem div_pos (ht : Tr k t) : 0 < t.width * 2 ^ c := Int.mul_pos (by have := ht.width; omega) (Int.pow_pos (by decide))
theorem whole_pos (ht : Tr k t) : 1 ≤ t.whole := by have := ht.low; have := ht.width; have := ht.whole; omega
theorem x_range (ht : Tr k t) (hr : RowOk n row) (hi : ins t v c) : 0 ≤ num v c row t / (t.width * 2 ^ c) ∧ num v c row t / (t.width * 2 ^ c) < row.sum := by
  have hD := div_pos (c := c) ht
  have hS := hr.2.2
  have hw := whole_pos ht
  obtain ⟨h1, h2⟩ := hi
  refine ⟨Int.ediv_nonneg ?_ (by omega), Int.ediv_lt_of_lt_mul hD ?_⟩
  · exact Int.mul_nonneg (by omega) (by omega)
  · have a : v * t.whole - t.low * 2 ^ c < t.width * 2 ^ c := by
      have e1 : (v + 1) * t.whole = v * t.whole + t.whole := by grind
      have e2 : (t.low + t.width) * 2 ^ c = t.low * 2 ^ c + t.width * 2 ^ c := by grind
      omega
    have b := Int.mul_lt_mul_of_pos_right a (show 0 < row.sum by omega)
    show (v * t.whole - t.low * 2 ^ c) * row.sum < row.sum * (t.width * 2 ^ c)
    rw [Int.mul_comm row.sum]
    exact b
theorem sOf_lt (ht : Tr k t) (hr : RowOk n row) (hi : ins t v c) : sOf v c row t < n ∧ 1 ≤ row.getD (sOf v c row t) 0 := by
  obtain ⟨h1, h2⟩ := x_range ht hr hi
  obtain ⟨a, b, d⟩ := symAt_spec row _ hr.2.1 h1 h2
  have e := sum_take_succ row (symAt row (num v c row t / (t.width * 2 ^ c))) a
  rw [← hr.1]
  refine ⟨a, ?_⟩
  show 1 ≤ row.getD (symAt row (num v c row t / (t.width * 2 ^ c))) 0
  omega
theorem ins_pos (ht : Tr k t) (hr : RowOk n row) (h : ins (stp t row s) v c) : 1 ≤ row.getD s 0 := by
  have h1 := ins_need h
  have hw : 1 ≤ t.whole * row.sum := by
    have := Int.mul_le_mul (whole_pos ht) hr.2.2 (by decide) (by have := whole_pos ht; omega)
    omega
  have h2 : t.whole * row.sum ≤ t.width * row.getD s 0 * 2 ^ c := h1
  have h3 := getD_nonneg hr.2.1 s
  by_cases z : row.getD s 0 = 0
  · rw [z, Int.mul_zero, Int.zero_mul] at h2
    omega
  · omega
/-- the symbol whose part holds all fractions is the one at the number -/
theorem uniq (ht : Tr k t) (hr : RowOk n row) (hs : s < n) (h : ins (stp t row s) v c) : s = sOf v c row t := by
  have hD := div_pos (c := c) ht
  have hS := hr.2.2
  have hw := whole_pos ht
  obtain ⟨h1, h2⟩ := h
  have e := sum_take_succ row s (by rw [hr.1]; exact hs)
  refine (symAt_uniq row _ s hr.2.1 (by rw [hr.1]; exact hs) ?_ ?_).symm
  · refine (Int.le_ediv_iff_mul_le hD).mpr ?_
    have g : (t.low * row.sum + t.width * (row.take s).sum) * 2 ^ c ≤ v * (t.whole * row.sum) := h1
    unfold num
    have e1 : (t.low * row.sum + t.width * (row.take s).sum) * 2 ^ c = t.low * 2 ^ c * row.sum + (row.take s).sum * (t.width * 2 ^ c) := by grind
    have e2 : (v * t.whole - t.low * 2 ^ c) * row.sum = v * (t.whole * row.sum) - t.low * 2 ^ c * row.sum := by grind
    omega
  · refine Int.ediv_lt_of_lt_mul hD ?_
    have g : (v + 1) * (t.whole * row.sum) ≤ (t.low * row.sum + t.width * (row.take s).sum + t.width * row.getD s 0) * 2 ^ c := h2
    unfold num
    have e1 : (t.low * row.sum + t.width * (row.take s).sum + t.width * row.getD s 0) * 2 ^ c = t.low * 2 ^ c * row.sum + ((row.take s).sum + row.getD s 0) * (t.width * 2 ^ c) := by grind
    have e2 : (v * t.whole - t.low * 2 ^ c) * row.sum = v * (t.whole * row.sum) - t.low * 2 ^ c * row.sum := by grind
    have e3 : (v + 1) * (t.whole * row.sum) = v * (t.whole * row.sum) + t.whole * row.sum := by grind
    have e4 : 0 < t.whole * row.sum := Int.mul_pos (by omega) (by omega)
    rw [e]
    omega
/-- a part lies within the whole -/
theorem nested (ht : Tr k t) (hr : RowOk n row) (hs : s < n) (h : ins (stp t row s) v c) : ins t v c := by
  have hS := hr.2.2
  have h0 := take_nonneg hr.2.1 s
  have hp : (0 : Int) < 2 ^ c := Int.pow_pos (by decide)
  obtain ⟨h1, h2⟩ := h
  have e := sum_take_succ row s (by rw [hr.1]; exact hs)
  have a3 : (row.take (s + 1)).sum ≤ row.sum := by
    have e : row.sum = (row.take (s + 1)).sum + (row.drop (s + 1)).sum := by rw [← List.sum_append, List.take_append_drop]
    have := sum_nonneg (row.drop (s + 1)) fun x hx => hr.2.1 x (List.mem_of_mem_drop hx)
    omega
  have hw := ht.width
  refine ⟨?_, ?_⟩
  · refine Int.le_of_mul_le_mul_right (a := row.sum) ?_ (by omega)
    have g : (t.low * row.sum + t.width * (row.take s).sum) * 2 ^ c ≤ v * (t.whole * row.sum) := h1
    have e1 : (t.low * row.sum + t.width * (row.take s).sum) * 2 ^ c = t.low * 2 ^ c * row.sum + t.width * (row.take s).sum * 2 ^ c := by grind
    have e2 : v * t.whole * row.sum = v * (t.whole * row.sum) := by grind
    have e3 : 0 ≤ t.width * (row.take s).sum * 2 ^ c := Int.mul_nonneg (Int.mul_nonneg (by omega) h0) (by omega)
    omega
  · refine Int.le_of_mul_le_mul_right (a := row.sum) ?_ (by omega)
    have g : (v + 1) * (t.whole * row.sum) ≤ (t.low * row.sum + t.width * (row.take s).sum + t.width * row.getD s 0) * 2 ^ c := h2
    have b2 : t.width * (row.take (s + 1)).sum * 2 ^ c ≤ t.width * row.sum * 2 ^ c := Int.mul_le_mul_of_nonneg_right (Int.mul_le_mul_of_nonneg_left a3 (by omega)) (by omega)
    have e1 : (t.low * row.sum + t.width * (row.take s).sum + t.width * row.getD s 0) * 2 ^ c = t.low * row.sum * 2 ^ c + t.width * (row.take (s + 1)).sum * 2 ^ c := by rw [e]; grind
    have e2 : (v + 1) * t.whole * row.sum = (v + 1) * (t.whole * row.sum) := by grind
    have e3 : (t.low + t.width) * 2 ^ c * row.sum = t.low * row.sum * 2 ^ c + t.width * row.sum * 2 ^ c := by grind
    omega
/-- more bits behind -/
theorem ins_more {x : Int} {b : Nat} (ht : Tr k t) (h : ins t v c) (h0 : 0 ≤ x) (h1 : x < 2 ^ b) : ins t (v * 2 ^ b + x) (c + b) := by
  have hw := whole_pos ht
  have hp : (0 : Int) < 2 ^ b := Int.pow_pos (by decide)
  obtain ⟨g1, g2⟩ := h
  have m1 := Int.mul_le_mul_of_nonneg_right g1 (Int.le_of_lt hp)
  have m2 := Int.mul_le_mul_of_nonneg_right g2 (Int.le_of_lt hp)
  have m3 : 0 ≤ x * t.whole := Int.mul_nonneg h0 (by omega)
  have m4 : (x + 1) * t.whole ≤ 2 ^ b * t.whole := Int.mul_le_mul_of_nonneg_right (by omega) (by omega)
  refine ⟨?_, ?_⟩
  · rw [Int.pow_add]
    have e1 : t.low * (2 ^ c * 2 ^ b) = t.low * 2 ^ c * 2 ^ b := by grind
    have e2 : (v * 2 ^ b + x) * t.whole = v * t.whole * 2 ^ b + x * t.whole := by grind
    omega
  · rw [Int.pow_add]
    have e1 : (t.low + t.width) * (2 ^ c * 2 ^ b) = (t.low + t.width) * 2 ^ c * 2 ^ b := by grind
    have e2 : (v * 2 ^ b + x + 1) * t.whole = v * t.whole * 2 ^ b + (x + 1) * t.whole := by grind
    have e3 : (v + 1) * t.whole * 2 ^ b = v * t.whole * 2 ^ b + 2 ^ b * t.whole := by grind
    omega
theorem ins0 (h0 : 0 ≤ v) (h1 : v < 2 ^ c) : ins ⟨0, 1, 1⟩ v c := ⟨by show (0 : Int) * 2 ^ c ≤ v * 1; omega, by show (v + 1) * 1 ≤ (0 + 1) * (2 : Int) ^ c; omega⟩
end
abbrev t0 : T3 := ⟨0, 1, 1⟩
/-- decoding: so many symbols more, behind those told -/
def dec (v : Int) (c : Nat) (m0 : Md) : Nat → List Nat → List Nat ⊕ Nat
  | 0, acc => .inl acc
  | k + 1, acc => if ins (itv m0 (acc ++ [sOf v c (mds m0 acc).row (itv m0 acc t0)]) t0) v c then dec v c m0 k (acc ++ [sOf v c (mds m0 acc).row (itv m0 acc t0)]) else .inr acc.length
theorem prefix_ins {n : Nat} {m0 : Md} {v : Int} {c : Nat} (g : Good n m0) : ∀ (b a : List Nat), Msg n m0 (a ++ b) → ins (itv m0 (a ++ b) t0) v c → ins (itv m0 a t0) v c
  | [], a, _, h => by simpa using h
  | s :: r, a, hm, h => by
    have e : a ++ s :: r = (a ++ [s]) ++ r := by simp
    rw [e] at hm h
    have h2 := prefix_ins g r (a ++ [s]) hm h
    have ha : Msg n m0 a := fun x hx => hm x (by simp [hx])
    have hg := mds_good a m0 g fun x hx => (ha x hx).1
    rw [itv_snoc] at h2
    have ht := itv_tr a m0 t0 0 g ha tr0
    exact nested ht hg.ok.row (hm s (by simp)).1 h2
theorem dec_ok {n : Nat} {m0 : Md} {v : Int} {c : Nat} (g : Good n m0) : ∀ (b a : List Nat), Msg n m0 (a ++ b) → ins (itv m0 (a ++ b) t0) v c → dec v c m0 b.length a = .inl (a ++ b)
  | [], a, _, _ => by simp [dec]
  | s :: r, a, hm, h => by
    have e : a ++ s :: r = (a ++ [s]) ++ r := by simp
    rw [e] at hm h
    have h2 := prefix_ins g r (a ++ [s]) hm h
    have ha : Msg n m0 a := fun x hx => hm x (by simp [hx])
    have hg := mds_good a m0 g fun x hx => (ha x hx).1
    have ht := itv_tr a m0 t0 0 g ha tr0
    have h3 := h2
    rw [itv_snoc] at h3
    have hu := uniq ht hg.ok.row (hm s (by simp)).1 h3
    rw [List.length_cons]
    unfold dec
    rw [← hu, if_pos h2, dec_ok g r (a ++ [s]) hm h, e]
end M10
set_option linter.all false
/-! The mathematics of ranks, rests and choices: plain lists. -/
namespace M03
def wAt (ws : List Int) (k : Nat) : Int := ws.getD k 0
/-- k comes before j -/
def Rk (ws : List Int) (k j : Nat) : Prop := wAt ws j < wAt ws k ∨ (wAt ws k = wAt ws j ∧ k < j)
structure IsRank (ws : List Int) (ord : List Nat) : Prop where
  pw : ord.Pairwise (Rk ws)
  mem : ∀ k, k ∈ ord ↔ k < ws.length
theorem Rk.irrefl {ws : List Int} {k : Nat} (h : Rk ws k k) : False := by
  unfold Rk at h; omega
theorem Rk.asymm {ws : List Int} {k j : Nat} (h : Rk ws k j) (h2 : Rk ws j k) : False := by
  unfold Rk at h h2; omega
theorem Rk.trans {ws : List Int} {k j i : Nat} (h : Rk ws k j) (h2 : Rk ws j i) : Rk ws k i := by
  unfold Rk at *; omega
theorem Rk.total {ws : List Int} {k j : Nat} (h : k ≠ j) : Rk ws k j ∨ Rk ws j k := by
  unfold Rk; omega
theorem uniq (ws : List Int) : ∀ (a b : List Nat), a.Pairwise (Rk ws) → b.Pairwise (Rk ws) → (∀ k, k ∈ a ↔ k ∈ b) → a = b
  | [], [], _, _, _ => rfl
  | [], y :: b, _, _, h => absurd ((h y).mpr List.mem_cons_self) (by simp)
  | x :: a, [], _, _, h => absurd ((h x).mp List.mem_cons_self) (by simp)
  | x :: a, y :: b, ha, hb, h => by
    have ha' := List.pairwise_cons.mp ha
    have hb' := List.pairwise_cons.mp hb
    have e : x = y := by
      rcases List.mem_cons.mp ((h x).mp List.mem_cons_self) with e | e
      · exact e
      · rcases List.mem_cons.mp ((h y).mpr List.mem_cons_self) with e2 | e2
        · exact e2.symm
        · exact (Rk.asymm (hb'.1 x e) (ha'.1 y e2)).elim
    subst e
    rw [uniq ws a b ha'.2 hb'.2 fun k => ?_]
    constructor
    · intro hk
      rcases List.mem_cons.mp ((h k).mp (List.mem_cons_of_mem _ hk)) with e | e
      · subst e; exact (Rk.irrefl (ha'.1 _ hk)).elim
      · exact e
    · intro hk
      rcases List.mem_cons.mp ((h k).mpr (List.mem_cons_of_mem _ hk)) with e | e
      · subst e; exact (Rk.irrefl (hb'.1 _ hk)).elim
      · exact e
theorem IsRank.uniq {ws : List Int} {a b : List Nat} (ha : IsRank ws a) (hb : IsRank ws b) : a = b := M03.uniq ws a b ha.pw hb.pw fun k => (ha.mem k).trans (hb.mem k).symm
def leK (ws : List Int) (k j : Nat) : Bool := decide (wAt ws j < wAt ws k ∨ (wAt ws k = wAt ws j ∧ k ≤ j))
def rankL (ws : List Int) : List Nat := (List.range ws.length).mergeSort (leK ws)
theorem rank_perm (ws : List Int) : (rankL ws).Perm (List.range ws.length) := List.mergeSort_perm _ _
theorem rank_is (ws : List Int) : IsRank ws (rankL ws) := by
  refine ⟨?_, fun k => ?_⟩
  · have h1 : (rankL ws).Pairwise fun a b => leK ws a b = true := List.pairwise_mergeSort (fun a b c => by unfold leK; simp only [decide_eq_true_eq]; omega) (fun a b => by unfold leK; simp only [Bool.or_eq_true, decide_eq_true_eq]; omega) _
    have h2 : (rankL ws).Nodup := (rank_perm ws).nodup_iff.mpr List.nodup_range
    have h3 := h1.and h2
    refine h3.imp fun {a b} h => ?_
    obtain ⟨h4, h5⟩ := h
    unfold leK at h4
    unfold Rk
    have h6 := of_decide_eq_true h4
    have h7 : a ≠ b := h5
    omega
  · rw [(rank_perm ws).mem_iff, List.mem_range]
theorem rank_len (ws : List Int) : (rankL ws).length = ws.length := by rw [(rank_perm ws).length_eq, List.length_range]
theorem rank_lt {ws : List Int} {k : Nat} (h : k ∈ rankL ws) : k < ws.length := ((rank_is ws).mem k).mp h
/-- choosing the best of the rest again and again -/
structure Part (ws : List Int) (ord : List Nat) : Prop where
  pw : ord.Pairwise (Rk ws)
  lt : ∀ k ∈ ord, k < ws.length
  before : ∀ k ∈ ord, ∀ j, j < ws.length → j ∉ ord → Rk ws k j
theorem Part.nil (ws : List Int) : Part ws [] := ⟨.nil, by simp, by simp⟩
/-- b: the best among the first i that ord has not -/
def Best (ws : List Int) (ord : List Nat) (i : Nat) : Option Nat → Prop
  | none => ∀ j, j < i → j ∈ ord
  | some b => b < i ∧ b ∉ ord ∧ ∀ j, j < i → j ∉ ord → j ≠ b → Rk ws b j
theorem Part.add {ws : List Int} {ord : List Nat} {b : Nat} (p : Part ws ord) (h : Best ws ord ws.length (some b)) : Part ws (ord ++ [b]) := by
  obtain ⟨h1, h2, h3⟩ := h
  refine ⟨List.pairwise_append.mpr ⟨p.pw, List.pairwise_singleton _ _, fun a ha c hc => ?_⟩, fun k hk => ?_, fun k hk j hj hn => ?_⟩
  · rw [List.mem_singleton.mp hc]
    exact p.before a ha b h1 h2
  · rcases List.mem_append.mp hk with h | h
    · exact p.lt k h
    · rw [List.mem_singleton.mp h]; exact h1
  · have hn1 : j ∉ ord := fun z => hn (List.mem_append_left _ z)
    have hn2 : j ≠ b := fun z => hn (by rw [z]; exact List.mem_append_right _ (List.mem_singleton.mpr rfl))
    rcases List.mem_append.mp hk with h | h
    · exact p.before k h j hj hn1
    · rw [List.mem_singleton.mp h]
      exact h3 j hj hn1 hn2
theorem nodup_sub : ∀ (l m : List Nat), l.Nodup → (∀ x ∈ l, x ∈ m) → l.length ≤ m.length
  | [], _, _, _ => Nat.zero_le _
  | x :: l, m, h, hs => by
    have h' := List.nodup_cons.mp h
    have hx := hs x List.mem_cons_self
    have h1 := nodup_sub l (m.erase x) h'.2 fun y hy => (List.mem_erase_of_ne (fun e => h'.1 (by rw [← e]; exact hy))).mpr (hs y (List.mem_cons_of_mem _ hy))
    rw [List.length_erase_of_mem hx] at h1
    have h2 := List.length_pos_of_mem hx
    simp only [List.length_cons]
    omega
theorem nodup_le {ord : List Nat} {n : Nat} (h : ord.Nodup) (hl : ∀ k ∈ ord, k < n) : ord.length ≤ n := by
  have h2 := nodup_sub ord (List.range n) h fun k hk => List.mem_range.mpr (hl k hk)
  rwa [List.length_range] at h2
theorem Part.nodup {ws : List Int} {ord : List Nat} (p : Part ws ord) : ord.Nodup := p.pw.imp fun {a b} h e => by subst e; exact h.irrefl
/-- a best one is there while ord is not whole -/
theorem Part.some {ws : List Int} {ord : List Nat} (p : Part ws ord) (h : ord.length < ws.length) {o : Option Nat} (hb : Best ws ord ws.length o) : ∃ b, o = .some b := by
  cases o with
  | some b => exact ⟨b, rfl⟩
  | none =>
    have h2 := nodup_sub (List.range ws.length) ord List.nodup_range fun k hk => hb k (List.mem_range.mp hk)
    rw [List.length_range] at h2
    omega
theorem Part.whole {ws : List Int} {ord : List Nat} (p : Part ws ord) (h : ord.length = ws.length) : ord = rankL ws := by
  refine IsRank.uniq ⟨p.pw, fun k => ⟨p.lt k, fun hk => ?_⟩⟩ (rank_is ws)
  by_cases hm : k ∈ ord
  · exact hm
  · exfalso
    have h2 : (k :: ord).Nodup := List.nodup_cons.mpr ⟨hm, p.nodup⟩
    have h3 := nodup_le h2 (n := ws.length) fun j hj => by
      rcases List.mem_cons.mp hj with e | e
      · rw [e]; exact hk
      · exact p.lt j e
    simp only [List.length_cons] at h3
    omega
theorem Best.zero (ws : List Int) (ord : List Nat) : Best ws ord 0 none := fun j h => absurd h (Nat.not_lt_zero j)
theorem Best.skip {ws : List Int} {ord : List Nat} {i : Nat} {o : Option Nat} (h : Best ws ord i o) (hi : i ∈ ord) : Best ws ord (i + 1) o := by
  cases o with
  | none =>
    intro j hj
    by_cases e : j = i
    · rw [e]; exact hi
    · exact h j (by omega)
  | some b =>
    obtain ⟨h1, h2, h3⟩ := h
    refine ⟨by omega, h2, fun j hj hn hb => ?_⟩
    by_cases e : j = i
    · rw [e] at hn; exact absurd hi hn
    · exact h3 j (by omega) hn hb
theorem Best.first {ws : List Int} {ord : List Nat} {i : Nat} (h : Best ws ord i none) (hi : i ∉ ord) : Best ws ord (i + 1) (some i) := by
  refine ⟨by omega, hi, fun j hj hn hb => ?_⟩
  exact absurd (h j (by omega)) hn
theorem Best.take {ws : List Int} {ord : List Nat} {i b : Nat} (h : Best ws ord i (some b)) (hi : i ∉ ord) (hw : wAt ws b < wAt ws i) : Best ws ord (i + 1) (some i) := by
  obtain ⟨h1, h2, h3⟩ := h
  refine ⟨by omega, hi, fun j hj hn hb => ?_⟩
  by_cases e : j = b
  · rw [e]; exact .inl hw
  · have := h3 j (by omega) hn e
    exact Rk.trans (.inl hw) this
theorem Best.keep {ws : List Int} {ord : List Nat} {i b : Nat} (h : Best ws ord i (some b)) (hw : ¬ wAt ws b < wAt ws i) : Best ws ord (i + 1) (some b) := by
  obtain ⟨h1, h2, h3⟩ := h
  refine ⟨by omega, h2, fun j hj hn hb => ?_⟩
  by_cases e : j = i
  · rw [e]; unfold Rk; omega
  · exact h3 j (by omega) hn hb

/-! ### rests -/
def restL : List Int → List Int
  | [] => [0]
  | v :: r => (v + (restL r).headD 0) :: restL r
theorem restL_len : ∀ vs : List Int, (restL vs).length = vs.length + 1
  | [] => rfl
  | v :: r => by simp [restL, restL_len r]
def ranked (ws : List Int) : List Int := (rankL ws).map (wAt ws)
theorem ranked_len (ws : List Int) : (ranked ws).length = ws.length := by simp [ranked, rank_len]
theorem ranked_perm (ws : List Int) : (ranked ws).Perm ws := by
  have h := (rank_perm ws).map (wAt ws)
  have e : (List.range ws.length).map (wAt ws) = ws := by
    refine List.ext_getElem (by simp) fun i h1 h2 => ?_
    simp [wAt, List.getD_eq_getElem?_getD, h2]
  rw [e] at h
  exact h
theorem ranked_desc (ws : List Int) : (ranked ws).Pairwise (fun a b => b ≤ a) := by
  unfold ranked
  refine List.pairwise_map.mpr ((rank_is ws).pw.imp fun {a b} h => ?_)
  unfold Rk at h
  omega
theorem sorted_uniq : ∀ (a b : List Int), a.Pairwise (· ≤ ·) → b.Pairwise (· ≤ ·) → a.Perm b → a = b
  | [], b, _, _, h => (List.Perm.nil_eq h)
  | x :: a, [], _, _, h => absurd h.length_eq (by simp)
  | x :: a, y :: b, ha, hb, h => by
    have ha' := List.pairwise_cons.mp ha
    have hb' := List.pairwise_cons.mp hb
    have e : x = y := by
      have h1 : x ≤ y := by
        rcases List.mem_cons.mp (h.mem_iff.mpr (List.mem_cons_self (a := y) (l := b))) with e | e
        · omega
        · exact ha'.1 y e
      have h2 : y ≤ x := by
        rcases List.mem_cons.mp (h.mem_iff.mp (List.mem_cons_self (a := x) (l := a))) with e | e
        · omega
        · exact hb'.1 x e
      omega
    subst e
    rw [sorted_uniq a b ha'.2 hb'.2 h.cons_inv]
theorem asc_is {ws asc : List Int} (h : asc.Perm ws) (hs : asc.Pairwise (· ≤ ·)) : asc = (ranked ws).reverse := by
  refine sorted_uniq _ _ hs (List.pairwise_reverse.mpr (ranked_desc ws)) ?_
  exact h.trans ((ranked_perm ws).symm.trans (List.reverse_perm _).symm)
/-- sums of the beginnings -/
def pre : List Int → List Int
  | [] => [0]
  | v :: r => 0 :: (pre r).map (v + ·)
def sumsA : List Int → List Int → List Int := fun acc vs => vs.foldl (fun acc v => acc ++ [acc.getLastD 0 + v]) acc
theorem restL_snoc : ∀ (vs : List Int), ∀ l, l = vs.reverse → ∀ v, restL (v :: vs) = (v + (restL vs).headD 0) :: restL vs := fun _ _ _ _ => rfl
/-! ### the choices -/
abbrev Nxt := Option (Int × Int × Int)
def chOne (sums : List Int) (limit depth m k : Int) (a : Nat) : Option (Int × Int × Nxt) :=
  let n : Int := (sums.length : Int) - 1
  let ok : Bool := if depth = limit then decide ((a : Int) = n - m) else (decide (0 < depth) || decide ((a : Int) = 0))
  if ok && decide (m + a = n) then some (a, 0, none)
  else if ok && decide ((a : Int) < k) then some (a, sums.getD (m + a).toNat 0, some (depth + 1, m + a, if n - m - a < 2 * (k - a) then n - m - a else 2 * (k - a)))
  else none
def chN (sums : List Int) (m k : Int) : Nat := ((if (sums.length : Int) - 1 - m < k then (sums.length : Int) - 1 - m else k) + 1).toNat
def chL (sums : List Int) (limit depth m k : Int) : List (Int × Int × Nxt) := (List.range (chN sums m k)).filterMap (chOne sums limit depth m k)
end M03
set_option linter.all false
/-! The mathematics of prefix codes: lengths, room, canonical words. -/
namespace M01
def lnA (ls : List Int) (k : Nat) : Nat := (ls.getD k 0).toNat
/-- lengths from 0 to 20 -/
def Lok (ls : List Int) : Prop := ∀ x ∈ ls, 0 ≤ x ∧ x ≤ 20
def share (x : Int) : Int := if x = 0 then 0 else (2 : Int) ^ (20 - x.toNat)
def kraft (ls : List Int) : Int := (ls.map share).sum
def roomL (ls : List Int) : Int := 1048576 - kraft ls
theorem kraft_app (a b : List Int) : kraft (a ++ b) = kraft a + kraft b := by
  unfold kraft
  rw [List.map_append, List.sum_append]
theorem pow_nn (n : Nat) : (0 : Int) ≤ 2 ^ n := Int.le_of_lt (Int.pow_pos (by decide))
theorem share_nn (x : Int) : 0 ≤ share x := by
  unfold share
  split
  · exact Int.le_refl _
  · exact pow_nn _
theorem pow20 : ∀ l : Nat, l ≤ 20 → (1048576 : Int) / (1 * 2 ^ l) = 2 ^ (20 - l) := fun l h => by
  have : ∀ l : Fin 21, (1048576 : Int) / (1 * 2 ^ l.val) = 2 ^ (20 - l.val) := by decide
  exact this ⟨l, by omega⟩
theorem share_bd (x : Int) : share x ≤ 1048576 := by
  unfold share
  split
  · decide
  · have : ∀ y : Fin 21, (2 : Int) ^ y.val ≤ 1048576 := by decide
    exact this ⟨20 - x.toNat, by omega⟩
theorem kraft_zero : ∀ ls : List Int, (∀ x ∈ ls, x = 0) → kraft ls = 0
  | [], _ => rfl
  | x :: r, h => by
    have h1 := kraft_zero r fun y hy => h y (List.mem_cons_of_mem _ hy)
    have h2 := h x List.mem_cons_self
    subst h2
    show share 0 + kraft r = 0
    rw [h1]
    rfl
/-! ### the order: by length, then by symbol -/
def Lx (ls : List Int) (k j : Nat) : Prop := lnA ls k < lnA ls j ∨ (lnA ls k = lnA ls j ∧ k < j)
theorem Lx.irrefl {ls : List Int} {k : Nat} (h : Lx ls k k) : False := by
  unfold Lx at h; omega
theorem Lx.asymm {ls : List Int} {k j : Nat} (h : Lx ls k j) (h2 : Lx ls j k) : False := by
  unfold Lx at h h2; omega
theorem uniq (ls : List Int) : ∀ (a b : List Nat), a.Pairwise (Lx ls) → b.Pairwise (Lx ls) → (∀ k, k ∈ a ↔ k ∈ b) → a = b
  | [], [], _, _, _ => rfl
  | [], y :: b, _, _, h => absurd ((h y).mpr List.mem_cons_self) (by simp)
  | x :: a, [], _, _, h => absurd ((h x).mp List.mem_cons_self) (by simp)
  | x :: a, y :: b, ha, hb, h => by
    have ha' := List.pairwise_cons.mp ha
    have hb' := List.pairwise_cons.mp hb
    have e : x = y := by
      rcases List.mem_cons.mp ((h x).mp List.mem_cons_self) with e | e
      · exact e
      · rcases List.mem_cons.mp ((h y).mpr List.mem_cons_self) with e2 | e2
        · exact e2.symm
        · exact (Lx.asymm (hb'.1 x e) (ha'.1 y e2)).elim
    subst e
    rw [uniq ls a b ha'.2 hb'.2 fun k => ?_]
    constructor
    · intro hk
      rcases List.mem_cons.mp ((h k).mp (List.mem_cons_of_mem _ hk)) with e | e
      · subst e; exact (Lx.irrefl (ha'.1 _ hk)).elim
      · exact e
    · intro hk
      rcases List.mem_cons.mp ((h k).mpr (List.mem_cons_of_mem _ hk)) with e | e
      · subst e; exact (Lx.irrefl (hb'.1 _ hk)).elim
      · exact e
structure IsOrd (ls : List Int) (o : List Nat) : Prop where
  pw : o.Pairwise (Lx ls)
  mem : ∀ k, k ∈ o ↔ k < ls.length ∧ 0 < lnA ls k
/-- the order as far as (L, k) -/
structure Proc (ls : List Int) (L k : Nat) (o : List Nat) : Prop where
  pw : o.Pairwise (Lx ls)
  mem : ∀ s, s ∈ o ↔ s < ls.length ∧ 0 < lnA ls s ∧ (lnA ls s < L ∨ (lnA ls s = L ∧ s < k))
theorem Proc.zero (ls : List Int) : Proc ls 1 0 [] := ⟨.nil, fun s => by simp; omega⟩
theorem Proc.skip {ls : List Int} {L k : Nat} {o : List Nat} (h : Proc ls L k o) (e : lnA ls k ≠ L) : Proc ls L (k + 1) o := ⟨h.pw, fun s => by
  rw [h.mem]
  constructor
  · rintro ⟨a, b, c⟩
    exact ⟨a, b, by omega⟩
  · rintro ⟨a, b, c⟩
    refine ⟨a, b, ?_⟩
    rcases c with c | ⟨c, d⟩
    · exact .inl c
    · by_cases z : s = k
      · subst z; exact absurd c e
      · exact .inr ⟨c, by omega⟩⟩
theorem Proc.add {ls : List Int} {L k : Nat} {o : List Nat} (h : Proc ls L k o) (e : lnA ls k = L) (hL : 0 < L) (hk : k < ls.length) : Proc ls L (k + 1) (o ++ [k]) ∧ k ∉ o := by
  have hn : k ∉ o := fun z => by have := (h.mem k).mp z; omega
  refine ⟨⟨List.pairwise_append.mpr ⟨h.pw, List.pairwise_singleton _ _, fun a ha b hb => ?_⟩, fun s => ?_⟩, hn⟩
  · rw [List.mem_singleton.mp hb]
    have := (h.mem a).mp ha
    unfold Lx
    omega
  · rw [List.mem_append, h.mem, List.mem_singleton]
    constructor
    · rintro (⟨a, b, c⟩ | rfl)
      · exact ⟨a, b, by omega⟩
      · exact ⟨hk, by omega, by omega⟩
    · rintro ⟨a, b, c⟩
      by_cases z : s = k
      · exact .inr z
      · exact .inl ⟨a, b, by omega⟩
theorem Proc.next {ls : List Int} {L : Nat} {o : List Nat} (h : Proc ls L ls.length o) : Proc ls (L + 1) 0 o := ⟨h.pw, fun s => by
  rw [h.mem]
  constructor
  · rintro ⟨a, b, c⟩
    exact ⟨a, b, by omega⟩
  · rintro ⟨a, b, c⟩
    exact ⟨a, b, by omega⟩⟩
theorem ln_le {ls : List Int} (h : Lok ls) (k : Nat) : lnA ls k ≤ 20 := by
  unfold lnA
  by_cases hk : k < ls.length
  · have := h _ (List.getElem_mem hk)
    rw [List.getD_eq_getElem?_getD, List.getElem?_eq_getElem hk]
    show (ls[k]).toNat ≤ 20
    omega
  · rw [List.getD_eq_getElem?_getD, List.getElem?_eq_none (by omega)]
    decide
theorem Proc.whole {ls : List Int} {o : List Nat} (hl : Lok ls) (h : Proc ls 21 0 o) : IsOrd ls o := ⟨h.pw, fun s => by
  rw [h.mem]
  have := ln_le hl s
  constructor
  · rintro ⟨a, b, c⟩
    exact ⟨a, b⟩
  · rintro ⟨a, b⟩
    exact ⟨a, b, by omega⟩⟩
theorem IsOrd.uniq {ls : List Int} {a b : List Nat} (ha : IsOrd ls a) (hb : IsOrd ls b) : a = b := M01.uniq ls a b ha.pw hb.pw fun k => (ha.mem k).trans (hb.mem k).symm
/-! ### words -/
def bitsL (x l : Nat) : List Int := (List.range l).map fun j => ((x / 2 ^ (l - 1 - j) % 2 : Nat) : Int)
theorem bits_len (x l : Nat) : (bitsL x l).length = l := by simp [bitsL]
def xs (ls : List Int) (o : List Nat) : Nat := (o.map fun s => 2 ^ (20 - lnA ls s)).sum
theorem xs_snoc (ls : List Int) (o : List Nat) (s : Nat) : xs ls (o ++ [s]) = xs ls o + 2 ^ (20 - lnA ls s) := by
  unfold xs
  rw [List.map_append, List.sum_append]
  simp
def wd (ls : List Int) (o : List Nat) (s : Nat) : List Int := bitsL (xs ls o / 2 ^ (20 - lnA ls s)) (lnA ls s)
def upTo (o : List Nat) (k : Nat) : List Nat := o.takeWhile fun x => decide (x ≠ k)
theorem upTo_app {o : List Nat} {k s : Nat} (h : k ∈ o) : upTo (o ++ [s]) k = upTo o k := by
  unfold upTo
  induction o with
  | nil => simp at h
  | cons x r ih =>
    by_cases e : x = k
    · subst e
      simp
    · have h' : k ∈ r := by
        rcases List.mem_cons.mp h with z | z
        · exact absurd z.symm e
        · exact z
      simp only [List.cons_append]
      rw [List.takeWhile_cons_of_pos (by simpa using e), List.takeWhile_cons_of_pos (by simpa using e), ih h']
theorem upTo_new {o : List Nat} {s : Nat} (h : s ∉ o) : upTo (o ++ [s]) s = o := by
  unfold upTo
  induction o with
  | nil => simp
  | cons x r ih =>
    have hx : x ≠ s := fun z => h (by rw [z]; exact List.mem_cons_self)
    simp only [List.cons_append]
    rw [List.takeWhile_cons_of_pos (by simpa using hx), ih fun z => h (List.mem_cons_of_mem _ z)]
def ent (ls : List Int) (o : List Nat) (k : Nat) : Option (List Int) := if k ∈ o then some (wd ls (upTo o k) k) else none
def tabOf (ls : List Int) (o : List Nat) : List (Option (List Int)) := (List.range ls.length).map (ent ls o)
theorem tab_len (ls : List Int) (o : List Nat) : (tabOf ls o).length = ls.length := by simp [tabOf]
theorem tab_at {ls : List Int} {o : List Nat} {k : Nat} (h : k < ls.length) : (tabOf ls o)[k]? = some (ent ls o k) := by
  unfold tabOf
  rw [List.getElem?_map, List.getElem?_range h]
  rfl
theorem tab_nil (ls : List Int) : tabOf ls [] = List.replicate ls.length none := by
  refine List.ext_getElem? fun k => ?_
  by_cases h : k < ls.length
  · rw [tab_at h, List.getElem?_replicate, if_pos h]
    rfl
  · rw [List.getElem?_eq_none (by rw [tab_len]; omega), List.getElem?_eq_none (by rw [List.length_replicate]; omega)]
theorem ent_add {ls : List Int} {o : List Nat} {s k : Nat} (hs : s ∉ o) : ent ls (o ++ [s]) k = if k = s then some (wd ls o s) else ent ls o k := by
  unfold ent
  by_cases e : k = s
  · subst e
    rw [if_pos (List.mem_append_right _ (List.mem_singleton.mpr rfl)), if_pos rfl, upTo_new hs]
  · rw [if_neg e]
    by_cases h : k ∈ o
    · rw [if_pos (List.mem_append_left _ h), if_pos h, upTo_app h]
    · rw [if_neg fun z => ?_, if_neg h]
      rcases List.mem_append.mp z with z | z
      · exact h z
      · exact e (List.mem_singleton.mp z)
/-! ### no word begins another one -/
theorem nodup_sum (f : Nat → Nat) : ∀ (l m : List Nat), l.Nodup → (∀ x ∈ l, x ∈ m) → (l.map f).sum ≤ (m.map f).sum
  | [], _, _, _ => Nat.zero_le _
  | x :: l, m, h, hs => by
    have h' := List.nodup_cons.mp h
    have hx := hs x List.mem_cons_self
    have h1 := nodup_sum f l (m.erase x) h'.2 fun y hy => (List.mem_erase_of_ne (fun e => h'.1 (by rw [← e]; exact hy))).mpr (hs y (List.mem_cons_of_mem _ hy))
    have h2 := ((List.perm_cons_erase hx).map f).sum_nat
    rw [h2]
    simp only [List.map_cons, List.sum_cons]
    omega
theorem IsOrd.nodup {ls : List Int} {o : List Nat} (h : IsOrd ls o) : o.Nodup := h.pw.imp fun {a b} h e => by subst e; exact h.irrefl
theorem kraft_sum : ∀ ls : List Int, (∀ x ∈ ls, 0 ≤ x) → (((List.range ls.length).map fun k => if lnA ls k = 0 then 0 else 2 ^ (20 - lnA ls k)).sum : Nat) = kraft ls
  | [], _ => rfl
  | x :: r, h => by
    have ih := kraft_sum r fun y hy => h y (List.mem_cons_of_mem _ hy)
    have hx := h x List.mem_cons_self
    rw [List.length_cons, List.range_succ_eq_map, List.map_cons, List.map_map, List.sum_cons]
    have e : (fun k => if lnA (x :: r) k = 0 then 0 else 2 ^ (20 - lnA (x :: r) k)) ∘ Nat.succ = fun k => if lnA r k = 0 then 0 else 2 ^ (20 - lnA r k) := by
      funext k
      rfl
    rw [e, Int.natCast_add, ih]
    show _ = share x + kraft r
    congr 1
    show (((if x.toNat = 0 then 0 else 2 ^ (20 - x.toNat)) : Nat) : Int) = share x
    unfold share
    by_cases z : x = 0
    · subst z; rfl
    · rw [if_neg (by omega), if_neg z]
      simp
theorem xs_le {ls : List Int} {o : List Nat} (hl : Lok ls) (h : IsOrd ls o) : (xs ls o : Int) ≤ kraft ls := by
  rw [← kraft_sum ls fun x hx => (hl x hx).1]
  have h1 := nodup_sum (fun k => if lnA ls k = 0 then 0 else 2 ^ (20 - lnA ls k)) o (List.range ls.length) h.nodup fun x hx => List.mem_range.mpr ((h.mem x).mp hx).1
  have h2 : (o.map fun k => if lnA ls k = 0 then 0 else 2 ^ (20 - lnA ls k)) = o.map fun s => 2 ^ (20 - lnA ls s) := by
    refine List.map_congr_left fun k hk => ?_
    have := ((h.mem k).mp hk).2
    rw [if_neg (by omega)]
  rw [h2] at h1
  unfold xs
  exact_mod_cast h1
theorem bits_mod (x y : Nat) : ∀ l, (∀ i, i < l → x / 2 ^ i % 2 = y / 2 ^ i % 2) → x % 2 ^ l = y % 2 ^ l
  | 0, _ => by rw [Nat.pow_zero, Nat.mod_one, Nat.mod_one]
  | l + 1, h => by
    rw [Nat.pow_succ, Nat.mod_mul, Nat.mod_mul, bits_mod x y l fun i hi => h i (by omega), h l (by omega)]
theorem bits_inj {x y l : Nat} (hx : x < 2 ^ l) (hy : y < 2 ^ l) (h : bitsL x l = bitsL y l) : x = y := by
  have h1 := bits_mod x y l fun i hi => by
    have h2 := congrArg (fun z => z[l - 1 - i]?) h
    have h3 : l - 1 - (l - 1 - i) = i := by omega
    simp only [bitsL, List.getElem?_map, List.getElem?_range (show l - 1 - i < l by omega), Option.map_some, h3, Option.some.injEq] at h2
    exact_mod_cast h2
  rwa [Nat.mod_eq_of_lt hx, Nat.mod_eq_of_lt hy] at h1
theorem bits_take {x l m : Nat} (h : m ≤ l) : (bitsL x l).take m = bitsL (x / 2 ^ (l - m)) m := by
  refine List.ext_getElem? fun j => ?_
  by_cases hj : j < m
  · rw [List.getElem?_take_of_lt hj]
    simp only [bitsL, List.getElem?_map, List.getElem?_range (show j < l by omega), List.getElem?_range hj, Option.map_some, Nat.div_div_eq_div_mul, ← Nat.pow_add]
    have : l - m + (m - 1 - j) = l - 1 - j := by omega
    rw [this]
  · rw [List.getElem?_eq_none (by rw [List.length_take, bits_len]; omega), List.getElem?_eq_none (by rw [bits_len]; omega)]
/-- where a symbol stands in the order -/
theorem split_at {o : List Nat} {k : Nat} (h : k ∈ o) : ∃ r, o = upTo o k ++ k :: r := by
  unfold upTo
  induction o with
  | nil => simp at h
  | cons x t ih =>
    by_cases e : x = k
    · subst e
      exact ⟨t, by simp⟩
    · have h' : k ∈ t := by
        rcases List.mem_cons.mp h with z | z
        · exact absurd z.symm e
        · exact z
      obtain ⟨r, hr⟩ := ih h'
      refine ⟨r, ?_⟩
      rw [List.takeWhile_cons_of_pos (by simpa using e), List.cons_append, ← hr]
theorem xs_app (ls : List Int) (a b : List Nat) : xs ls (a ++ b) = xs ls a + xs ls b := by
  unfold xs
  rw [List.map_append, List.sum_append]
theorem upTo_mem {o : List Nat} {k x : Nat} (h : x ∈ upTo o k) : x ∈ o := (List.takeWhile_sublist _).subset h
theorem pos_lt {ls : List Int} {o : List Nat} (hl : Lok ls) (h : IsOrd ls o) (hk : kraft ls ≤ 1048576) {k : Nat} (hm : k ∈ o) : xs ls (upTo o k) + 2 ^ (20 - lnA ls k) ≤ 2 ^ 20 := by
  obtain ⟨r, e⟩ := split_at hm
  have h1 := xs_le hl h
  have h2 : xs ls o = xs ls (upTo o k) + (2 ^ (20 - lnA ls k) + xs ls r) := by
    rw (occs := .pos [1]) [e]
    rw [xs_app]
    simp [xs]
  have h3 : ((xs ls o : Nat) : Int) ≤ 1048576 := by omega
  have h4 : xs ls o ≤ 1048576 := by omega
  have h5 : (2 : Nat) ^ 20 = 1048576 := by decide
  omega
theorem before {ls : List Int} {o : List Nat} (h : IsOrd ls o) {a b : Nat} (ha : a ∈ o) (hb : b ∈ o) (hab : Lx ls a b) : xs ls (upTo o a) + 2 ^ (20 - lnA ls a) ≤ xs ls (upTo o b) := by
  obtain ⟨r, e⟩ := split_at hb
  have ham : a ∈ upTo o b := by
    have h1 : a ∈ upTo o b ++ b :: r := by rw [← e]; exact ha
    rcases List.mem_append.mp h1 with z | z
    · exact z
    · exfalso
      rcases List.mem_cons.mp z with z | z
      · subst z; exact hab.irrefl
      · have h2 := h.pw
        rw [e] at h2
        have h3 := (List.pairwise_cons.mp (List.pairwise_append.mp h2).2.1).1 a z
        exact hab.asymm h3
  obtain ⟨r2, e2⟩ := split_at ham
  have h5 : upTo (upTo o b) a = upTo o a := by
    rw (occs := .pos [2]) [e]
    have : ∀ (t u : List Nat), a ∈ t → upTo (t ++ u) a = upTo t a := fun t u ht => by
      clear e2 ham e h ha hb hab
      unfold upTo
      induction t with
      | nil => simp at ht
      | cons x t ih =>
        by_cases q : x = a
        · subst q; simp
        · have h' : a ∈ t := by
            rcases List.mem_cons.mp ht with z | z
            · exact absurd z.symm q
            · exact z
          simp only [List.cons_append]
          rw [List.takeWhile_cons_of_pos (by simpa using q), List.takeWhile_cons_of_pos (by simpa using q), ih h']
    exact (this _ _ ham).symm
  rw [e2, h5, xs_app]
  have : xs ls (a :: r2) = 2 ^ (20 - lnA ls a) + xs ls r2 := by simp [xs]
  omega
theorem Lx.total {ls : List Int} {k j : Nat} (h : k ≠ j) : Lx ls k j ∨ Lx ls j k := by
  unfold Lx; omega
theorem clash {ls : List Int} {o : List Nat} (hl : Lok ls) (h : IsOrd ls o) (hk : kraft ls ≤ 1048576) {a b : Nat} (ha : a ∈ o) (hb : b ∈ o) (hab : Lx ls a b) (hle : lnA ls a ≤ lnA ls b) : (wd ls (upTo o b) b).take (lnA ls a) ≠ wd ls (upTo o a) a := by
  intro e
  have l1 := ln_le hl a
  have l2 := ln_le hl b
  unfold wd at e
  rw [bits_take hle, Nat.div_div_eq_div_mul, ← Nat.pow_add] at e
  have e1 : 20 - lnA ls b + (lnA ls b - lnA ls a) = 20 - lnA ls a := by omega
  rw [e1] at e
  have p1 := pos_lt hl h hk ha
  have p2 := pos_lt hl h hk hb
  have b1 := before h ha hb hab
  have hp : 0 < 2 ^ (20 - lnA ls a) := Nat.pow_pos (by decide)
  have hp2 : 0 < 2 ^ (20 - lnA ls b) := Nat.pow_pos (by decide)
  have hm : (2 : Nat) ^ 20 = 2 ^ lnA ls a * 2 ^ (20 - lnA ls a) := by rw [← Nat.pow_add]; congr 1; omega
  have q1 : xs ls (upTo o b) / 2 ^ (20 - lnA ls a) < 2 ^ lnA ls a := (Nat.div_lt_iff_lt_mul hp).mpr (by omega)
  have q2 : xs ls (upTo o a) / 2 ^ (20 - lnA ls a) < 2 ^ lnA ls a := (Nat.div_lt_iff_lt_mul hp).mpr (by omega)
  have e2 := bits_inj q1 q2 e
  have q3 : (xs ls (upTo o a) + 2 ^ (20 - lnA ls a)) / 2 ^ (20 - lnA ls a) ≤ xs ls (upTo o b) / 2 ^ (20 - lnA ls a) := Nat.div_le_div_right b1
  rw [Nat.add_div_right _ hp] at q3
  omega
/-- no word is the beginning of another one -/
theorem free {ls : List Int} {o : List Nat} (hl : Lok ls) (h : IsOrd ls o) (hk : kraft ls ≤ 1048576) {a b : Nat} (ha : a ∈ o) (hb : b ∈ o) (hab : a ≠ b) : (wd ls (upTo o b) b).take (lnA ls a) ≠ wd ls (upTo o a) a := by
  rcases Lx.total (ls := ls) hab with z | z
  · exact clash hl h hk ha hb z (by unfold Lx at z; omega)
  · intro e
    have hle : lnA ls b ≤ lnA ls a := by unfold Lx at z; omega
    have h1 : (wd ls (upTo o b) b).length = lnA ls b := bits_len _ _
    have h2 : (wd ls (upTo o a) a).length = lnA ls a := bits_len _ _
    have h3 := congrArg List.length e
    rw [List.length_take, h1, h2] at h3
    have h4 : lnA ls a = lnA ls b := by omega
    have h5 := clash hl h hk hb ha z hle
    apply h5
    rw [← h4, List.take_of_length_le (by rw [h2]; exact Nat.le_refl _), ← e, h4, List.take_of_length_le (by rw [h1]; exact Nat.le_refl _)]
end M01
set_option Elab.async false
set_option linter.all false
set_option maxRecDepth 100000
set_option maxHeartbeats 4000000
namespace K13
open PySem PySem.Spec PyProof.Rows L2 StX GX KC Evl M08 M09 M10 M01
section
variable {P : Program} {w : World} {K : PySem.W.Frag} {mg : Str → Option Value} {base : Heap} {Cl : Nat → Addr} {σ : L2.St} {H H' : Hp} {p d R r : Addr} {rs : List Addr} {m : Md} {n : Nat} {F : Addr → Prop} {ta tb te : TE} {D : Ends} {tz : TS}
theorem ep_fresh2 {ta : TE} (hm : MAt Cl H p m F) (hok : Ok n m) (ha : Ev ta σ H (.ref p)) : EvP (tMethD Cl Any "fresh" (spFresh Cl) ta tNil) σ H (fun v H' => ∃ p' F', v = .ref p' ∧ MAt Cl H' p' m.fresh F' ∧ ∀ b, F' b → H b = none) := by
  obtain ⟨dx, fs, hp, hn⟩ := hm.obj
  exact ev_methP (i := m.kind) ha hok.kd hp (hn _ (by decide +kernel) (by decide +kernel) (by decide +kernel) (by decide +kernel) (by decide +kernel)) ea_nil fun H1 e Q q => ⟨p, m, F, n, rfl, rfl, hm.ext e, hok, fun p' H' F' ex hf hn => q _ H' ex ⟨p', F', rfl, hf, fun b hb => fresh_back e (hn b hb)⟩⟩
/-- model.learn(symbol) as a statement -/
theorem q_learn {t : TA} {s : Nat} (hm : MAt Cl H p m F) (hok : Ok n m) (ha : Ev ta σ H (.ref p)) (ht : EvA t σ H [.int (s : Int)]) (hs : s < n) (k : ∀ H2 F', MAt Cl H2 p (m.learn s) F' → Kp F H H2 → (∀ b, F' b → F b ∨ H b = none) → tz D σ H2) : tSeq (tDrop (tMethD Cl Any "learn" (spLearn Cl) ta t)) tz D σ H := by
  obtain ⟨dx, fs, hp, hn⟩ := hm.obj
  refine ha H (Ex.refl H) _ fun H1 e1 => ⟨m.kind, p, dx, fs, hok.kd, rfl, e1 _ _ hp, hn _ (by decide +kernel) (by decide +kernel) (by decide +kernel) (by decide +kernel) (by decide +kernel), ht H1 e1 _ fun H2 e2 => ?_⟩
  have e12 := e1.trans e2
  exact ⟨p, m, F, n, s, rfl, rfl, hm.ext e12, hok, hs, fun H3 F3 hm3 kp fr => k H3 F3 hm3 ((Kp.of_ex e12).trans kp) fun b hb => (fr b hb).imp (fun z => z) fun z => fresh_back e12 z⟩
theorem s_learn {t : TA} {s : Nat} (hm : MAt Cl H p m F) (hok : Ok n m) (ha : Ev ta σ H (.ref p)) (ht : EvA t σ H [.int (s : Int)]) (hs : s < n) (k : ∀ H2 F', MAt Cl H2 p (m.learn s) F' → Kp F H H2 → (∀ b, F' b → F b ∨ H b = none) → D.nx σ H2) : tDrop (tMethD Cl Any "learn" (spLearn Cl) ta t) D σ H := by
  obtain ⟨dx, fs, hp, hn⟩ := hm.obj
  refine ha H (Ex.refl H) _ fun H1 e1 => ⟨m.kind, p, dx, fs, hok.kd, rfl, e1 _ _ hp, hn _ (by decide +kernel) (by decide +kernel) (by decide +kernel) (by decide +kernel) (by decide +kernel), ht H1 e1 _ fun H2 e2 => ?_⟩
  have e12 := e1.trans e2
  exact ⟨p, m, F, n, s, rfl, rfl, hm.ext e12, hok, hs, fun H3 F3 hm3 kp fr => k H3 F3 hm3 ((Kp.of_ex e12).trans kp) fun b hb => (fr b hb).imp (fun z => z) fun z => fresh_back e12 z⟩
/-! field_bits -/
/-! narrowed, interval -/
end
end K13
set_option Elab.async false
set_option linter.all false
set_option maxRecDepth 100000
set_option maxHeartbeats 4000000
/-! Own exceptions whose __init__ reads self.__class__.__name__: the two attributes. -/
namespace KX
open PySem PySem.W PySem.Calls PyProof.Rows Builtin Builtin.ObjectAttr Builtin.Getset_descriptor
section
variable {prog : Program} {w : World} {A : Around} {E : Value → Shared → Prop} {s : Shared} {K : Frag} {R : Result → Shared → Prop} {C : Addr}
theorem nam_args (d tp : Value) (C : Addr) : descrGetArgs ⟨[d, .ref C, tp], []⟩ = pure (d, some (.ref C), given tp) := by first | rfl | kernel_rfl
/-- the getter of a class's name, where the name is kept -/
theorem nam_get {tp v : Value} {o : Obj} (X : K.In s.heap) (hk : K.lookup C = some o) (hs : o.slots[2]? = some (some v)) (tC : typeIn K (.ref C) = some (.type "type")) (h : R (.ok (.ret v)) s) :
    codeAny (model prog w) A (.call (.builtin "getset_descriptor.__get__") ⟨[.builtin "type.__name__", .ref C, tp], []⟩) R s := by
  obtain ⟨hh, g, dr, t, os⟩ := s
  have T0 : Looks (model prog w) hh (typeOf (.ref C)) (.type "type") := looks_typeIn X tC
  have T1 : Looks (model prog w) hh (isSubtype (.type "type") (.type "type")) true := Looks.of_pure (by rw [isSubtype_type] <;> kernel_rfl)
  refine codeAny_call_builtin KF.slot_gs.plain KF.entry_gs (KF.slot_gs.check _ _ _ _ _ _ _ _ ktyn_type (KF.args_gs _ _ _) ?_)
  unfold Builtin.«getset_descriptor.__get__» descrGet
  rw [nam_args]
  refine wpAny_bind (wpAny_pure ?_)
  unfold descrGetter descrCheckInstance descrNameAndClass isInstance
  simp only [ktyn_owner]
  repeat lk
  refine ⟨Code.quiet_builtin _ (by decide +kernel), codeAny_builtin ktyn_entry ?_⟩
  unfold Builtin.«type.__name__»
  dsimp only
  unfold keptObject slotAt
  dsimp only
  have ho := X _ _ hk
  refine wpAny_bind (wpAny_bind (wpAny_loadPart ho (wpAny_pure ?_)))
  rw [hs]
  first
    | exact wpAny_bind (wpAny_pure (wpAny_pure h))
    | exact wpAny_pure (wpAny_pure h)
    | exact wpAny_bind (wpAny_bind (wpAny_pure h))
    | (show wpAny _ _ (ret v >>= _) _ _ _; exact wpAny_bind (wpAny_pure (wpAny_pure h)))
/-- e.__class__, e an exception of an own class -/
theorem exc_cls {x : Addr} {ox : Obj} {od : Option Obj} {expr : Bool} {gt : Option Value} {Q : Value → Shared → Prop} (X : K.In s.heap) (I : InstAt s.heap x ox C od) (g1 : findIn K (.ref C) "__getattribute__" = some (some (.builtin "BaseException.__getattribute__")))
    (g2 : findIn K (.ref C) "__getattr__" = some gt) (g3 : subIn K (.ref C) (.type "BaseException") = some true) (g4 : findObj K C od "__class__" = some (.bind (.builtin "getset_descriptor.__get__") (.builtin "object.__class__"))) (g5 : mroIn K C (.type "object") = some true)
    (q : Q (.ref C) { s with toks := s.toks + 1 }) : wpAny (model prog w) A (getAttr (.ref x) "__class__" expr) Q E s := by
  obtain ⟨hh, gg, dd, tt, oo⟩ := s
  have a0 := I.type (M := model prog w)
  have a3 := looks_find (M := model prog w) X I g4
  have sub : Looks (model prog w) hh (isInstance (.ref x) (.type "BaseException")) true := a0.andThen (looks_subIn X g3)
  have nb : (Value.builtin "BaseException.__getattribute__" == Value.builtin "object.__getattribute__") = false := by decide +kernel
  have n1 : (onTheHeap (Value.ref C) && Value.builtin "BaseException.__getattribute__" == Value.builtin "object.__getattribute__") = false := (congrArg (onTheHeap (Value.ref C) && ·) nb).trans (Bool.and_false _)
  have n0 : (expr && onTheHeap (Value.builtin "BaseException.__getattribute__")) = false := by cases expr <;> rfl
  unfold getAttr getAttrBy
  refine wpAny_bind (wpAny_mkText (wpAny_holding (wpAny_bind (a0.at (wpAny_bind ((looks_findIn X g1).at ?_)))))); show wpAny _ _ (if (onTheHeap (Value.ref C) && Value.builtin "BaseException.__getattribute__" == Value.builtin "object.__getattribute__") = true then _ else _) _ _ _
  rw [n1, if_neg Bool.false_ne_true]; unfold getAttrByItsOwn hookBefore
  refine wpAny_bind ?_; rw [if_pos (show onTheHeap (Value.ref C) = true from rfl)]
  refine (looks_findIn X g2).at (wpAny_bind (wpAny_attempt (wpAny_holding ?_))); unfold callGetattribute
  rw [n0, if_neg Bool.false_ne_true]; unfold boundAndCalled
  rw [PySem.F.excAttr_ValueError.ga.bind (.ref x)]; refine wpAny_bind (wpAny_pure ?_); show wpAny _ _ (call (.builtin "BaseException.__getattribute__") [.ref x, .str "__class__" tt]) _ _ _
  refine wpAny_call (codeAny_call_builtin PySem.F.excAttr_ValueError.ga.plain PySem.F.entry_bexc_ga (@PySem.W.check_slot (model prog w) _ _ ⟨hh, gg, dd, tt + 1, oo⟩ "BaseException.__getattribute__" "BaseException" "__getattribute__" (.ref x) [.str "__class__" tt] [] _ (by decide +kernel) (by decide +kernel) sub (PySem.F.args_bexc_ga (.ref x) (.str "__class__" tt)) ?_))
  unfold Builtin.«object.__getattribute__»; refine wpAny_bind (wpAny_of_eq (a := ((Value.ref x : Value), [Value.str "__class__" tt])) (by first | rfl | (simp only [slotArgs]; rfl)) (wpAny_bind (wpAny_pure (wpAny_bind (a0.at (wpAny_bind (a3.at ?_)))))))
  refine wpAny_bind (wpAny_holding (wpAny_call (class_get (s := ⟨hh, gg, dd, tt + 1, oo⟩) (ox := ox) (od := od) X I g5 ?_))); refine wpAny_pure ?_
  show wpAny _ _ (handedOut (.ref C)) _ _ _
  rw [handedOut_of (show handedIn (.ref C) = true from rfl)]
  first
    | exact wpAny_pure q
    | exact wpAny_pure (wpAny_pure q)
end
open L2
/-- what the written part says of a class's name -/
structure NamK (K : PySem.W.Frag) (C : Addr) (nm : Str) : Prop where
  ob : ∃ (o : Obj) (tk : Tok), K.lookup C = some o ∧ o.slots[2]? = some (some (.str nm tk))
  ty : PySem.W.typeIn K (.ref C) = some (.type "type")
  rd : PySem.W.readsIn K C (.type "type") = true
  fd : PySem.W.findCls K (.ref C) (.type "type") "__name__" = some (.get (.builtin "getset_descriptor.__get__") (.builtin "type.__name__") (.ref C) (.type "type"))
def tECls (K : PySem.W.Frag) (te : TE) : TE := fun σ H Q => te σ H fun x H1 => ∃ (a C dx : Addr) (fs : List (Str × V)), x = .ref a ∧ ExcC K C ∧ H1 a = some (exo a C (some dx)) ∧ H1 dx = some (exd dx fs) ∧ Q (.ref C) H1
def tCNam (K : PySem.W.Frag) (te : TE) : TE := fun σ H Q => te σ H fun x H1 => ∃ (C : Addr) (nm : Str), x = .ref C ∧ NamK K C nm ∧ Q (.str nm) H1
/-- BaseException.__init__ over an exception that has its dict -/
theorem init_dict {prog : Program} {w : World} {A : Around} {R : Result → Shared → Prop} {h : Heap} {g : Array GenState} {d : Drawn} {t : Nat} {os : OsState} {nm q : Str} {C N : Addr} {bs bm bmB : List Value} {hdct : Bool} {sn : List Str} {sub : List Value} {ab : Bool} {col : Option Bool} {dd : Option Addr} {k0 k1 k2 k3 k5 : Option Value} {B newId initId : String}
    (F : ExcBaseFacts B newId initId bmB) (hT : ∀ X : String, bm.contains (.type X) = bmB.contains (.type X)) {e t0 : Addr} {od : Option Addr} {rest : List Value} (hC : h.get? C = some (excClassObj nm q C N bs bm hdct sn sub ab col dd k0 k1 k2 k3 k5 newId))
    (he : h.get? e = some ({ cls := .ref C, dict := od, data := .fields #[.ref t0, .none, .none, .none, .bool false, .none] } : Obj)) (hr : rest.length ≤ sizeLine)
    (hq : ∀ h' (t1 : Addr), (∀ b o, b ≠ e → h.get? b = some o → h'.get? b = some o) → h'.get? e = some ({ cls := .ref C, dict := od, data := .fields #[.ref t1, .none, .none, .none, .bool false, .none] } : Obj) → R (.ok (.ret .none)) ⟨h', g, d, t, os⟩) :
    codeAny (model prog w) A (.call (.builtin initId) ⟨.ref e :: rest, []⟩) R ⟨h, g, d, t, os⟩ := by
  refine codeAny_call_builtin F.init.plain F.initEntry (PySem.HandSPX.check_init_own F hT hC he rfl ?_)
  wp_walk
  refine hq _ h.objs.size (fun b o hb ho => ?_) ?_
  · rw [Heap.get?_update_other _ _ (fun z => hb z.symm), Heap.get?_push_of_some _ ho]
  · rw [Heap.get?_update_self _ (Heap.get?_push_of_some _ he) rfl]; rfl
section
variable {X : Cx} {pins : List (Addr × Obj)} {σ : L2.St} {H : Hp} {s : Shared} {A : Around} {E : Value → Shared → Prop} {C a : Addr}
theorem init_okD {us : List Value} {od : Option Addr} {Q : Value → Shared → Prop} (T : OexC X.K C) (I : Inv X pins σ H s) (e : H a = some (exo a C od)) (hl : us.length ≤ sizeLine) (h : ∀ s', Inv X pins σ H s' → Q .none s') :
    wpAny (model X.prog X.w) A (call (.builtin "ValueError.__init__") (.ref a :: us)) Q E s := by
  obtain ⟨nm, q, N, bs, bm, sn, sub, ab, col, dd, k0, k1, k2, k3, k5, hC, hbm⟩ := T.cls
  obtain ⟨t1, ho⟩ := exo_at I.hok e
  obtain ⟨hp, g, d, t, os⟩ := s
  refine wpAny_call (init_dict F.excBase_ValueError (fun Y => PySem.HandSPX.refsVE_contains Y bm hbm) (I.kIn _ _ hC) ho hl fun h' t2 k hx => ?_)
  have J := I.write (t' := t) (x := a) (e := a) (o := exo a C od) (by rw [e]; exact True.intro) (.inl rfl) k ⟨_, hx⟩ (exo_ok hx)
  have eu : upd H a (exo a C od) = H := GX.upd_id e
  rw [eu] at J
  exact h _ J
end
section
variable {X : Cx} {e : Expr} {te : TE} {pos : Pos}
/-- ValueError.__init__(self, ..), self with or without its dict -/
def tVeD (K : PySem.W.Frag) (ta : TA) : TE := fun σ H Q => ta σ H fun vs H1 => ∃ (a C : Addr) (od : Option Addr) (ws : List V), vs = .ref a :: ws ∧ ws.length ≤ 1000 ∧ OexC K C ∧ H1 a = some (exo a C od) ∧ Q .non H1
theorem pe_veD {es : List Expr} {ta : TA} {p1 p2 : Pos} {pl : Sem Bool} (hg : Gl X "ValueError") (hm : X.mg "ValueError" = none) (vV : PySem.W.findCls X.K (.type "ValueError") (.type "type") "__init__" = some (.val (.builtin "ValueError.__init__"))) (ha : PA X (e :: es) ta)
    (hc : eval (.Call (.Attribute (.Name "ValueError" p1) "__init__" p2) (e :: es) [] pos) X.env = (eval (.Name "ValueError" p1) X.env >>= fun ov => standAt p2.atName >>= fun _ => holding [ov] (getMethod ov "__init__" pl) >>= fun r => callWith pos r.1 r.2 (backTo pos (starEach (e :: es) X.env)) (backToKw pos (keywordEach [] X.env))) := by rfl)
    (he : starEach (e :: es) X.env = (false, eval e X.env) :: starEach es X.env := by rfl) (hpl : (backTo pos (starEach es X.env)).any (·.1) = false := by rfl) :
    PE X (.Call (.Attribute (.Name "ValueError" p1) "__init__" p2) (e :: es) [] pos) (tVeD X.K ta) := by
  refine ⟨fun pins s σ H Q I h => ?_⟩
  refine PySem.W.methodCall_KW (ld_blt I hg hm PyProof.Rows.Boot.«ValueError» ?_ (by decide) (by decide)) hc
  obtain ⟨m, fr⟩ := I.fr
  refine PySem.W.method_type fr I.ok.mod.kin PySem.OEX.typ_VE (by decide +kernel) vV (by decide +kernel) ?_
  show wpAny _ _ (callWith pos (Value.builtin "ValueError.__init__") [] (backTo pos (starEach (e :: es) X.env)) []) _ _ _
  refine PyProof.Rows.callWith_method1 (thn (ha.run pos pins _ σ H _ (I.tok _) h) fun us s1 ⟨vs, H1, I1, r1, a, C, od, ws, ev, hl, T, ea, q⟩ => ?_) he hpl
  subst ev
  cases r1 with
  | @cons _ u0 _ ur ra rr =>
    obtain rfl : u0 = Value.ref a := ra
    exact init_okD T I1 ea (by rw [← Paired.length rr, sizeLine_eq]; omega) fun s' J => ⟨.non, H1, J, rfl, q⟩
end
section
variable {X : Cx} {e : Expr} {te : TE} {pos : Pos}
theorem pe_cnam (he : PE X e te) (hb : attributeBase e "__name__" X.env (eval e X.env) = eval e X.env := by rfl) : PE X (.Attribute e "__name__" pos) (tCNam X.K te) := by
  refine ⟨fun pins s σ H Q I h => ?_⟩
  refine attr_of hb (thn (he.run pins s σ H _ I h) fun u s1 ⟨x, H1, I1, rx, C, nm, ex, N, q⟩ => ?_)
  subst ex
  obtain rfl : u = Value.ref C := rx
  obtain ⟨o, tk, k1, k2⟩ := N.ob
  refine PySem.W.cls_bind I1.kIn N.rd N.fd ?_
  have I2 := I1.tok (s1.toks + 1)
  refine wpAny_call (nam_get (s := { s1 with toks := s1.toks + 1 }) I2.kIn k1 k2 N.ty ?_)
  exact PySem.W.handed_on rfl ⟨.str nm, H1, I2, ⟨tk, rfl⟩, q⟩
theorem pe_ecls (he : PE X e te) (hb : attributeBase e "__class__" X.env (eval e X.env) = eval e X.env := by rfl) : PE X (.Attribute e "__class__" pos) (tECls X.K te) := by
  refine ⟨fun pins s σ H Q I h => ?_⟩
  refine attr_of hb (thn (he.run pins s σ H _ I h) fun u s1 ⟨x, H1, I1, rx, a, C, dx, fs, ex, T, ea, ed, q⟩ => ?_)
  subst ex
  obtain rfl : u = Value.ref a := rx
  obtain ⟨t1, ho⟩ := exo_at I1.hok ea
  obtain ⟨mA, hns, rel⟩ := exd_at I1.hok ed
  obtain ⟨oD, _, _, hoD, _, _⟩ := hns.count (within_of rel)
  have J : PySem.W.InstAt s1.heap a { cls := .ref C, dict := some dx, data := .fields #[.ref t1, .none, .none, .none, .bool false, .none] } C (some oD) := ⟨ho, rfl, rfl, hoD⟩
  obtain ⟨cd, hc, _⟩ := PySem.W.any_some T.hd
  exact exc_cls I1.kIn J T.hg T.hk T.hs (PySem.W.findObj_dataE (by rw [hc] <;> rfl) T.ha T.hn T.ht) T.hm ⟨.ref C, H1, I1.tok _, rfl, q⟩
end
end KX
set_option Elab.async false
set_option linter.all false
set_option maxRecDepth 100000
set_option maxHeartbeats 4000000
/-! try with several 'except C as e' that take all that comes. -/
namespace KX
open PySem PySem.Spec PyProof.Rows L2
def endsAs (i : Nat) (D : Ends) : Ends := { nx := fun σ H => D.nx (σ.set i none) H, rt := D.rt, bk := fun σ H => D.bk (σ.set i none) H, ct := fun σ H => D.ct (σ.set i none) H }
abbrev Cl := Value × Nat × (Addr → Value → Option Addr → TS)
def wAsAll (K : PySem.W.Frag) (D : Ends) : List Cl → WX
  | [] => fun _ _ _ _ => False
  | (c, i, ts) :: r => fun cls d σ H => ∃ b, PySem.W.exmOne K cls c = some b ∧ (b = true → ∀ a, H a = none → ts a cls d (endsAs i D) (σ.set i (some (.ref a))) H) ∧ (b = false → wAsAll K D r cls d σ H)
inductive ClOk (X : Cx) : List ExceptHandler → List Cl → Prop
  | nil {hs : List ExceptHandler} : ClOk X hs []
  | cons {x n : Str} {c : Value} {i : Nat} {ts : Addr → Value → Option Addr → TS} {b₀ : Stmt} {su : List Stmt} {np p : Pos} {hs : List ExceptHandler} {l : List Cl} (hc : Names X x c) (hi : X.N[i]? = some n) (hn : X.env.kindOf n = some .local)
      (hb : ∀ (a : Addr) (oe : Obj) (cls : Value) (d : Option Addr) (pn : List (Addr × Obj)), Zc cls d oe → (∃ vs, oe.data = .fields vs) → PSs (X.suite a ((a, oe) :: pn)) (b₀ :: su) (ts a cls d)) (r : ClOk X hs l) : ClOk X (.ExceptHandler (some (.Name x np)) (some n) (b₀ :: su) p :: hs) ((c, i, ts) :: l)
section
variable {X : Cx} {body : List Stmt} {h₀ : ExceptHandler} {hds : List ExceptHandler} {l : List Cl} {pos : Pos} {tb : WX → TS}
theorem ps_try_all (hst : X.stack = X.env :: X.outer) (hfm : X.env.frame = some X.env.locals) (hN : X.N.Nodup) (hb : ∀ (W : WX) (pn : List (Addr × Obj)) (xe : Value → Shared → Prop), Takes (X.tr pn xe) W → PassesOwn (model X.prog X.w) X.A X.env xe → PSs (X.tr pn xe) body (tb W)) (hh : ClOk X (h₀ :: hds) l) :
    PS X (.Try body (h₀ :: hds) [] [] pos) (fun D σ H => tb (wAsAll X.K D l) D σ H) := by
  refine ⟨fun pins s σ H D I h => wpAny_Try_except ?_⟩
  have okX := I.ok
  have frX : X.A.frames = some (X.env :: X.outer) := okX.frames.trans (congrArg some hst)
  refine wpAny_mono ((hb (wAsAll X.K D l) (X.pn ++ pins) (fun e t₁ => wpAny (model X.prog X.w) X.A (noteFrame e X.env) (fun _ t₂ => wpAny (model X.prog X.w) X.A (setFlight e none) (fun _ t₃ => wpAny (model X.prog X.w) X.A (handleBy e X.env (h₀ :: hds)) (SP X pins D) X.xe t₃) X.xe t₂) X.xe t₁) (fun u t xx => ?_) PassesOwn.looking).run [] s σ H D (I.toTry _) h) (fun f t ht => ?_) fun _ _ z => z
  · obtain ⟨a, B, sI, pins1, σ1, H1, cls, d, rfl, J0, nb, up, sky, na, os, ag, w⟩ := xx
    have J : Inv X pins σ1 H1 sI := J0.ofTry okX
    refine Sky.land Zc.steady frX hfm (by rw [← hst] <;> exact sky) fun h3 fl3 up3 => ?_
    have J3 : Inv X pins σ1 H1 { t with heap := h3 } := J.landed nb fl3.1 (up.trans up3) os ag
    obtain ⟨oe, vs, he, hz, hd⟩ := fl3.there
    have nfr : a ∉ frs (X.env :: X.outer) := fun hm => by
      obtain ⟨_, o, eo, no⟩ := fl3.2.2.1.mem hm
      exact no vs ((congrArg Obj.data (Option.some.inj (eo.symm.trans he))).trans hd)
    have nL : a ≠ X.env.locals := fun z => nfr (List.mem_filterMap.mpr ⟨X.env, List.mem_cons_self, hfm.trans (congrArg some z.symm)⟩)
    have nF : a ∉ X.fs := fun hm => let ⟨e, m, q⟩ := List.mem_filterMap.mp hm; nfr (List.mem_filterMap.mpr ⟨e, List.mem_cons_of_mem _ m, q⟩)
    have S3 := J3.suite he hd na nL nF
    have LT : PySem.W.Looks (model X.prog X.w) h3 (typeOf (.ref a)) cls := fun A Q E s k q => wpAny_typeOf_ref (k _ _ he) (hz.1 ▸ q)
    have go : ∀ {hs : List ExceptHandler} {l1 : List Cl}, ClOk X hs l1 → wAsAll X.K D l1 cls d σ1 H1 → wpAny (model X.prog X.w) X.A (handleBy (.ref a) X.env hs) (SP X pins D) X.xe { t with heap := h3 } := by
      intro hs l1 hk
      induction hk with
      | nil => exact fun z => False.elim z
      | @cons x n c i ts b₀ su np p hs2 l2 hc hi hn hsu r ih =>
        rintro ⟨b, hb1, yes, no⟩
        refine wpAny_handleBy_cons (codeAny_handlers_test ?_) (fun q => nomatch q)
        have nm : ∀ {Q : Value → Shared → Prop} {E : Value → Shared → Prop}, Q c { t with heap := h3 } → wpAny (model X.prog X.w) (X.A.mark (some (.ref a))) (eval (.Name x np) X.env) Q E { t with heap := h3 } := fun {Q E} q => match hc with
          | ⟨hg, hdb, .inl hm⟩ => ld_glob (X := X.suite a ((a, oe) :: (X.pn ++ pins))) S3 hg hm q hdb
          | ⟨hg, hdb, .inr ⟨hm, hv, hnn⟩⟩ => ld_blt (X := X.suite a ((a, oe) :: (X.pn ++ pins))) S3 hg hm hv q hnn hdb
        refine nm ((PySem.W.exm_one (M := model X.prog X.w) J3.kIn LT hb1).here ?_)
        cases b with
        | false =>
          show wpAny _ X.A (handleBy (.ref a) X.env hs2) _ _ _
          exact ih (no rfl)
        | true =>
          refine codeAny_handlers_suite_as (HandSPX.lands_againZ fl3 fun h4 fl4 up4 => ?_)
          have J4 : Inv X pins σ1 H1 { t with heap := h4 } := J.landed nb fl4.1 ((up.trans up3).trans up4) os ag
          obtain ⟨oe4, vs4, he4, hz4, hd4⟩ := fl4.there
          refine store_ok (X := X.suite a ((a, oe4) :: (X.pn ++ pins))) (v := .ref a) (J4.suite he4 hd4 na nL nF) hN hi (.inl hn) rfl (fun s5 S5 => ?_) (.inr hn)
          refine wpAny_mono ((hsu a oe4 cls d (X.pn ++ pins) hz4 ⟨_, hd4⟩).run [] s5 _ H1 _ S5 (yes rfl a na)) (fun f s6 hsp => ?_) fun _ _ z => z.elim
          have fin : ∀ {σ6 : L2.St} {H6 : Hp} {Q : Shared → Prop}, Inv (X.suite a ((a, oe4) :: (X.pn ++ pins))) [] σ6 H6 s6 → (∀ s7, Inv X pins (σ6.set i none) H6 s7 → Q s7) → wpAny (model X.prog X.w) X.A (do bindName X.env n .none; unbindBehindTheSuite X.env n p) (fun _ s7 => Q s7) X.xe s6 := fun S6 hq => gone_ok (S6.unsuite okX) hN hi hn hq
          match f, hsp with
          | .next, ⟨_, _, S6, q6⟩ => exact fin S6 fun _ J7 => ⟨_, _, J7, q6⟩
          | .brk, ⟨_, _, S6, q6⟩ => exact fin S6 fun _ J7 => ⟨_, _, J7, q6⟩
          | .cont, ⟨_, _, S6, q6⟩ => exact fin S6 fun _ J7 => ⟨_, _, J7, q6⟩
          | .ret u, ⟨_, _, _, S6, r6, q6⟩ => exact fin S6 fun _ J7 => ⟨_, _, _, J7, r6, q6⟩
    exact go hh w
  · match f, ht with
    | .next, ⟨_, _, J, q⟩ => exact wpAny_execs_nil ⟨_, _, J.ofTry okX, q⟩
    | .brk, ⟨_, _, J, q⟩ => exact ⟨_, _, J.ofTry okX, q⟩
    | .cont, ⟨_, _, J, q⟩ => exact ⟨_, _, J.ofTry okX, q⟩
    | .ret u, ⟨_, _, _, J, r, q⟩ => exact ⟨_, _, _, J.ofTry okX, r, q⟩
end
end KX
set_option Elab.async false
set_option linter.all false
set_option maxRecDepth 100000
set_option maxHeartbeats 4000000
/-! Own error classes: what a law needs of them. -/
namespace KX
open PySem PySem.Spec PyProof.Rows L2 GX KC Evl
/-- what the written part says of an own error class and its fields -/
structure ErrK (K : PySem.W.Frag) (C : Addr) (nm : Str) : Prop where
  oc : OexC K C
  ec : L2.ExcC K C
  nk : NamK K C nm
  f1 : PySem.W.findIn K (.ref C) "place" = some none
  f2 : PySem.W.findIn K (.ref C) "name" = some none
def flds (nm : Str) (i : Int) : List (Str × V) := [("name", .str nm), ("place", .int i)]
def spInit (K : PySem.W.Frag) : Sp := fun vs H Q _ => ∃ (a C : Addr) (i : Int) (nm : Str), vs = [.ref a, .int i] ∧ H a = some (exo a C none) ∧ ErrK K C nm ∧ i.natAbs < 2 ^ 100 ∧
  ∀ dx H2, H dx = none → dx ≠ a → H2 a = some (exo a C (some dx)) → H2 dx = some (exd dx (flds nm i)) → (∀ b, b ≠ a → b ≠ dx → H2 b = H b) → Q .non H2
theorem log_bd {n : Nat} (h : n < 2 ^ 100) : n.log2 < 1920 := by
  by_cases z : n = 0
  · subst z; decide
  · have := (Nat.log2_lt z).mpr h
    omega
theorem ofString_len (s : String) : (Str.ofString s).length = s.length := by
  rw [Str.ofString_eq_toList]
  show (s.toList.map Char.toNat).toArray.size = _
  rw [List.size_toArray, List.length_map, String.length_toList]
theorem text_fits {i : Int} (h : i.natAbs < 2 ^ 100) : (Str.empty ++ Str.ofString "at place " ++ Str.ofString (toString i)).length ≤ sizeLine := by
  have h1 := int_text_length_le (a := i) (k := 1920) (by decide) (log_bd h)
  have h2 := ofString_len (toString i)
  show (((#[] : Array Nat) ++ (Str.ofString "at place ").cps) ++ (Str.ofString (toString i)).cps).size ≤ _
  rw [Array.size_append, Array.size_append]
  have h3 : (Str.ofString (toString i)).cps.size = (toString i).length := h2
  have h4 : (Str.ofString "at place ").cps.size = 9 := by decide
  have h5 : 10000 ≤ sizeLine := by decide
  rw [h3, h4]
  show 0 + 9 + _ ≤ _
  omega
section
variable {P : Program} {w : World} {K : PySem.W.Frag} {mg : Str → Option Value} {base : Heap}
/-- an own error class of the text, its __init__ -/
structure ErrG (P : Program) (w : World) (K : PySem.W.Frag) (mg : Str → Option Value) (base : Heap) (nm : Str) (C fI : Addr) (fd : FuncData) : Prop where
  er : ErrK K C nm
  iC : PySem.W.findIn K (.ref C) "__init__" = some (some (.ref fI))
  tI : PySem.W.typeIn K (.ref fI) = some (.type "function")
  g : mg nm = some (.ref C)
  ok : FnOk P w K mg base CX0 1 fI fd ["self", "place"] (spInit K)
  bd : Binds K fd ["self", "place"] []
def ErrOut (C : Addr) (nm : Str) (i : Int) (H : Hp) (E : XK) : Prop := ∀ (d : Addr) H2, H d = none → Ex H H2 → H2 d = some (.xd (flds nm i)) → E (.ref C) (some d) H2
theorem s_mk {σ : L2.St} {H : Hp} {te : TE} {C : Addr} {nm : Str} {i : Int} {W : XK} (T : ErrK K C nm) (h : Ev te σ H (.int i)) (hi : i.natAbs < 2 ^ 100) (k : ErrOut C nm i H W) : tMkO C (spInit K) [] (tCons te tNil) σ H W :=
  h H (Ex.refl H) _ fun H1 e1 => ⟨by show 1 ≤ 1000; decide, fun a ha => ⟨a, C, i, nm, rfl, upd_same, T, hi, fun dx H2 hdx hne h1 h2 hr => by
    have hd1 : H1 dx = none := by rw [upd_ne hne] at hdx; exact hdx
    refine ⟨rfl, dx, _, h1, h2, hd1, k dx _ (fresh_back e1 hd1) (fun x o hx => ?_) upd_same⟩
    have hx1 := e1 x o hx
    have n1 : x ≠ a := fun z => by rw [z, ha] at hx1; cases hx1
    have n2 : x ≠ dx := fun z => by rw [z, hd1] at hx1; cases hx1
    rw [upd_ne n2, del_ne n1, hr x n1 n2, upd_ne n1]
    exact hx1⟩⟩
structure CalX (P : Program) (w : World) (K : PySem.W.Frag) (mg : Str → Option Value) (base : Heap) (nm : Str) (k : Nat) (ps : List Str) (sp : Sp) : Prop where
  out : ∃ f fd, mg nm = some (.ref f) ∧ PySem.W.keepIn K (.ref f) = true ∧ Binds K fd ps [] ∧ FnOk P w K mg base (L2.CX P w) k f fd ps sp
theorem pe_callX {X : Cx} {nm : Str} {k : Nat} {ps : List Str} {sp : Sp} {E : XK} {p pos : Pos} {e : Expr} {es : List Expr} {t : TA} (C : CalX X.prog X.w X.K X.mg X.base nm k ps sp) (hr : Room k X.A) (hg : Gl X nm) (hx : Passes (L2.CX X.prog X.w) X E) (ha : PA X (e :: es) t)
    (hdb : (nm == ("__debug__" : Str)) = false := by decide) (he : starEach (e :: es) X.env = (false, eval e X.env) :: starEach es X.env := by rfl) (hpl : (backTo pos (starEach es X.env)).any (·.1) = false := by rfl) :
    PE X (.Call (.Name nm p) (e :: es) [] pos) (tCall sp [] E t) := by
  obtain ⟨f, fd, h1, h2, h3, h4⟩ := C.out
  exact pe_call h4 hr hg h1 h2 h3 .nil hx ha hdb he hpl
end
end KX
set_option Elab.async false
set_option linter.all false
set_option maxRecDepth 100000
set_option maxHeartbeats 4000000
/-! Pairs, calls that may raise, isinstance, a, b = x, y. -/
namespace KQ
open PySem PySem.Spec PyProof.Rows L2 StX GX KC Evl KX
structure Bs2 (mg : Str → Option Value) : Prop where
  str : mg "str" = none
  tuple : mg "tuple" = none
  all : mg "all" = none
/-! ### a, b = x, y with plain local names -/
def tPar2 (i j : Nat) (ta : TA) : TS := fun D σ H => ta σ H fun vs H1 => ∃ u v, vs = [u, v] ∧ D.nx ((σ.set i (some u)).set j (some v)) H1
section
variable {X : Cx}
theorem ps_par2 {i j : Nat} {x y : Str} {a b : Expr} {ta : TA} {px py pt pos : Pos} {kt k2 pt2} (hc : X.calm = true) (hN : X.N.Nodup) (hi : X.N[i]? = some x) (hj : X.N[j]? = some y) (hij : i ≠ j)
    (hx : X.env.scope.names.lookup x = some .local) (hy : X.env.scope.names.lookup y = some .local) (ha : PA X [a, b] ta)
    (hw : swappedStores [.Tuple [.Name x px, .Name y py] kt pt] (.Tuple [a, b] k2 pt2) X.env = pure (some [x, y])) (hs : swapsWithSole [.Tuple [.Name x px, .Name y py] kt pt] (.Tuple [a, b] k2 pt2) pos.line X.env = pure false := by rfl) :
    PS X (.Assign [.Tuple [.Name x px, .Name y py] kt pt] (.Tuple [a, b] k2 pt2) pos) (tPar2 i j ta) := by
  refine ⟨fun pins s σ H D I h => ?_⟩
  refine (exec_Assign_arm .. ▸ wpAny_bind (wpAny_standAt ?_) : _)
  refine hs ▸ wpAny_bind (wpAny_pure ?_)
  refine (if_neg (show ¬ false = true by decide)).symm ▸ ?_
  refine wpAny_bind (Tuple_ (thn (ha.run _ pins s σ H _ I h) fun us s1 w0 => ?_))
  obtain ⟨vs, H1, I1, r1, v1, v2, e1, q1⟩ := w0
  subst e1
  obtain ⟨u1, u2, rfl, ra, rb⟩ := vals2 r1
  refine wpAny_newObj_type ?_ (by show 2 ≤ sizeLine; decide)
  have I2 : Inv X pins σ H1 { s1 with heap := s1.heap.push { cls := .type "tuple", data := .seq [u1, u2].toArray } } := I1.kept (t' := s1.toks) fun b o e => Heap.get?_push_of_some _ e
  refine hw ▸ wpAny_bind (wpAny_pure ?_)
  show wpAny (model X.prog X.w) X.A (rule "assign.swapped-stores" >>= fun _ => unpackItems (.ref s1.heap.objs.size) 2 none >>= fun its => assignInOrder [fun v => bindName X.env y v, fun v => bindName X.env x v] its.reverse >>= fun _ => pure Flow.next) _ _ _
  refine wpAny_bind (wpAny_rule (wpAny_bind (unpackItems_tuple (items := #[u1, u2]) (I.ok.hd hc) (IsTup.new s1.heap _) fun hp hx2 => ?_)))
  have I3 := I2.kept (h' := hp) (t' := s1.toks) fun b o e => hx2 b o (Nat.ne_of_lt (Heap.lt_size e)) e
  show wpAny _ _ (assignInOrder [fun v => bindName X.env y v, fun v => bindName X.env x v] [u2, u1] >>= fun _ => pure Flow.next) _ _ _
  refine wpAny_bind (assignInOrder_cons (wpAny_bindName (store_ok I3 hN hj (.inl hy) rb (fun s2 I4 => ?_) (.inr hy))))
  refine assignInOrder_cons (wpAny_bindName (store_ok I4 hN hi (.inl hx) ra (fun s3 I5 => assignInOrder_nil (wpAny_pure ?_)) (.inr hx)))
  rw [List.set_comm _ _ (Ne.symm hij)] at I5
  exact ⟨_, H1, I5, q1⟩
end
/-! ### calls that may raise -/
theorem ErrOut.mono {C : Addr} {nm : Str} {i : Int} {H H' : Hp} {E : XK} (e : Ex H H') (h : ErrOut C nm i H E) : ErrOut C nm i H' E := fun d H2 hd e2 h2 => h d H2 (fresh_back e hd) (e.trans e2) h2
/-- a new tuple -/
def RetT (xs : List V) (H : Hp) (Q : VK) : Prop := ∀ p H2, H p = none → Ex H H2 → H2 p = some (.tup xs) → Q (.ref p) H2
theorem RetT.mono {xs : List V} {H H' : Hp} {Q : VK} (e : Ex H H') (h : RetT xs H Q) : RetT xs H' Q := fun p H2 hp e2 h2 => h p H2 (fresh_back e hp) (e.trans e2) h2
section
variable {K : PySem.W.Frag} {σ : L2.St} {H H' : Hp} {ta tb tc te tx tl : TE} {D : Ends} {tz : TS} {x y z v : V} {t u : TT}
theorem q_par2 {i j : Nat} {ta : TA} (h : EvA ta σ H [x, y]) (k : ∀ H1, Ex H H1 → tz D ((σ.set i (some x)).set j (some y)) H1) : tSeq (tPar2 i j ta) tz D σ H := h H (Ex.refl H) _ fun H1 e1 => ⟨_, _, rfl, k H1 e1⟩
theorem s_par2 {i j : Nat} {ta : TA} (h : EvA ta σ H [x, y]) (k : ∀ H1, Ex H H1 → D.nx ((σ.set i (some x)).set j (some y)) H1) : tPar2 i j ta D σ H := h H (Ex.refl H) _ fun H1 e1 => ⟨_, _, rfl, k H1 e1⟩
theorem q_asg2 {i j : Nat} {ta : TA} (h : EvA ta σ H [x, y]) (k : ∀ H1, Ex H H1 → tz D ((σ.set i (some x)).set j (some y)) H1) : tSeq (tAsg (tTup ta) (gTup K 2 (gCons (gName i) (gCons (gName j) gNil)))) tz D σ H :=
  h H (Ex.refl H) _ fun H1 e1 => ⟨by show 2 ≤ sizeLine; decide, fun p hp => ⟨p, _, rfl, .inl (.inl upd_same), rfl, _, _, rfl, _, _, rfl, rfl, k _ (e1.trans (Ex.new hp))⟩⟩
theorem g_two {i j : Nat} {p : Addr} {Q : L2.St → Hp → Prop} (hp : SqT K H p [x, y]) (k : Q ((σ.set i (some x)).set j (some y)) H) : gTup K 2 (gCons (gName i) (gCons (gName j) gNil)) (.ref p) σ H Q := ⟨p, _, rfl, hp, rfl, _, _, rfl, _, _, rfl, rfl, k⟩
theorem g_three {i j l : Nat} {p : Addr} {Q : L2.St → Hp → Prop} (hp : SqT K H p [x, y, z]) (k : Q (((σ.set i (some x)).set j (some y)).set l (some z)) H) : gTup K 3 (gCons (gName i) (gCons (gName j) (gCons (gName l) gNil))) (.ref p) σ H Q := ⟨p, _, rfl, hp, rfl, _, _, rfl, _, _, rfl, _, _, rfl, rfl, k⟩
theorem q_unp2 {i j : Nat} {p : Addr} (h : Ev te σ H (.ref p)) (hp : SqT K H p [x, y]) (k : ∀ H1, Ex H H1 → tz D ((σ.set i (some x)).set j (some y)) H1) : tSeq (tAsg te (gTup K 2 (gCons (gName i) (gCons (gName j) gNil)))) tz D σ H :=
  h H (Ex.refl H) _ fun H1 e1 => g_two (ex_t e1 hp) (k H1 e1)
theorem q_unp3' {i j l : Nat} {p : Addr} (h : Ev te σ H (.ref p)) (hp : SqT K H p [x, y, z]) (k : ∀ H1, Ex H H1 → tz D (((σ.set i (some x)).set j (some y)).set l (some z)) H1) : tSeq (tAsg te (gTup K 3 (gCons (gName i) (gCons (gName j) (gCons (gName l) gNil))))) tz D σ H :=
  h H (Ex.refl H) _ fun H1 e1 => g_three (ex_t e1 hp) (k H1 e1)
/-- a, b = f(..) -/
theorem q_unpX {sp : Sp} {E : XK} {vs : List V} {ta : TA} {g : TG} (h : EvA ta σ H vs) (k : ∀ H1, Ex H H1 → sp (vs ++ []) H1 (fun v H2 => g v σ H2 fun σ' H' => tz D σ' H') E) : tSeq (tAsg (tCall sp [] E ta) g) tz D σ H := h H (Ex.refl H) _ fun H1 e1 => k H1 e1
theorem s_unpX {sp : Sp} {E : XK} {vs : List V} {ta : TA} {g : TG} (h : EvA ta σ H vs) (k : ∀ H1, Ex H H1 → sp (vs ++ []) H1 (fun v H2 => g v σ H2 fun σ' H' => D.nx σ' H') E) : tAsg (tCall sp [] E ta) g D σ H := h H (Ex.refl H) _ fun H1 e1 => k H1 e1
theorem s_retX {sp : Sp} {E : XK} {vs : List V} {ta : TA} (h : EvA ta σ H vs) (k : ∀ H1, Ex H H1 → sp (vs ++ []) H1 D.rt E) : tRet (tCall sp [] E ta) D σ H := h H (Ex.refl H) _ fun H1 e1 => k H1 e1
/-- return xs, y with a new list -/
theorem s_retLT {xs : List V} (h : EvL ta σ H xs) (h2 : ∀ H1, Ex H H1 → Ev tb σ H1 y) (k : ∀ b p H2, H b = none → H p = none → Ex H H2 → H2 b = some (.lst xs) → H2 p = some (.tup [.ref b, y]) → D.rt (.ref p) H2) : tRet (tTup (tCons ta (tCons tb tNil))) D σ H :=
  h H (Ex.refl H) _ fun b H1 nb e1 h1 => h2 H1 e1 H1 (Ex.refl H1) _ fun H2 e2 => ⟨by show 2 ≤ sizeLine; decide, fun p hp => k b p _ nb (fresh_back (e1.trans e2) hp) ((e1.trans e2).trans (Ex.new hp)) ((e2.trans (Ex.new hp)) b _ h1) upd_same⟩
/-- return x, ys with a new list -/
theorem s_retTL {xs : List V} (h : Ev ta σ H x) (h2 : ∀ H1, Ex H H1 → EvL tb σ H1 xs) (k : ∀ b p H2, H b = none → H p = none → Ex H H2 → H2 b = some (.lst xs) → H2 p = some (.tup [x, .ref b]) → D.rt (.ref p) H2) : tRet (tTup (tCons ta (tCons tb tNil))) D σ H :=
  h H (Ex.refl H) _ fun H1 e1 => h2 H1 e1 H1 (Ex.refl H1) _ fun b H2 nb e2 hb => ⟨by show 2 ≤ sizeLine; decide, fun p hp => k b p _ (fresh_back e1 nb) (fresh_back (e1.trans e2) hp) ((e1.trans e2).trans (Ex.new hp)) ((Ex.new hp) b _ hb) upd_same⟩
/-- return x, y -/
theorem s_ret2 (h : Ev ta σ H x) (h2 : Ev tb σ H y) (k : RetT [x, y] H D.rt) : tRet (tTup (tCons ta (tCons tb tNil))) D σ H := s_retU (eu_tup (ea2 h h2) (by show 2 ≤ 100000; decide)) k
theorem s_ret3 (h : Ev ta σ H x) (h2 : Ev tb σ H y) (h3 : Ev tc σ H z) (k : RetT [x, y, z] H D.rt) : tRet (tTup (tCons ta (tCons tb (tCons tc tNil)))) D σ H := s_retU (eu_tup (ea3 h h2 h3) (by show 3 ≤ 100000; decide)) k
theorem ep_call {sp : Sp} {dvs vs : List V} {E : XK} {ta : TA} {R : V → Hp → Prop} (h : EvA ta σ H vs) (hs : ∀ H1, Ex H H1 → ∀ Q : VK, (∀ v H2, Ex H1 H2 → R v H2 → Q v H2) → sp (vs ++ dvs) H1 Q E) : EvP (tCall sp dvs E ta) σ H R := fun H1 e Q q =>
  h H1 e _ fun H2 e2 => hs H2 (e.trans e2) Q fun v H3 e3 r => q v H3 (e2.trans e3) r
theorem el_cat3 {xs ys : List V} {a : Addr} (ha : Ev ta σ H (.ref a)) (h0 : H a = some (.lst xs)) (hb : EvL tb σ H ys) (hz : xs.length + ys.length ≤ 100000) : EvL (tOp rCat ta tb) σ H (xs ++ ys) := fun H1 e Q q =>
  ha H1 e _ fun H2 e2 => hb H2 (e.trans e2) _ fun p H3 np e3 hp => ⟨a, p, xs, ys, rfl, rfl, ((e.trans e2).trans e3) a _ h0, hp, sz_of hz, fun p2 hp2 => q p2 _ (fresh_back (e2.trans e3) hp2) ((e2.trans e3).trans (Ex.new hp2)) upd_same⟩
theorem el_catLL {xs ys : List V} (ha : EvL ta σ H xs) (hb : EvL tb σ H ys) (hz : xs.length + ys.length ≤ 100000) : EvL (tOp rCat ta tb) σ H (xs ++ ys) := fun H1 e Q q =>
  ha H1 e _ fun a H2 na e2 h2 => hb H2 (e.trans e2) _ fun p H3 np e3 hp => ⟨a, p, xs, ys, rfl, rfl, e3 a _ h2, hp, sz_of hz, fun p2 hp2 => q p2 _ (fresh_back (e2.trans e3) hp2) ((e2.trans e3).trans (Ex.new hp2)) upd_same⟩
/-- isinstance(x, C) of a value that is at hand -/
theorem ev_isi {c : String} {t : Value} {b : Bool} (h : Ev ta σ H x) (ty : ∀ H1, Ex H H1 → TyX K H1 x t) (hk : PySem.W.kitOne K t (.type c) = some b) : Ev (tCB (rIsi K) (tCons ta (tCons (tC (.ty c)) tNil))) σ H (.bl b) := fun H1 e Q q =>
  h H1 e _ fun H2 e2 => ⟨x, .ty c, t, .type c, b, rfl, .ty c, ty H2 (e.trans e2), hk, q H2 e2⟩
theorem EvP.of_ev (h : Ev te σ H v) : EvP te σ H fun w _ => w = v := fun H1 e Q q => h H1 e Q fun H2 e2 => q _ H2 e2 rfl
theorem dpAll_at {ds : List PyData} {vs : List V} (h : DpAll K H vs ds) {j : Nat} {d : PyData} (hj : ds[j]? = some d) : ∃ v, vs[j]? = some v ∧ Dp K H v d := by
  induction ds generalizing vs j with
  | nil => simp at hj
  | cons d0 r ih =>
    cases h with
    | cons a b =>
      cases j with
      | zero =>
        have : d0 = d := by simpa using hj
        subst this
        exact ⟨_, rfl, a⟩
      | succ j =>
        obtain ⟨v, h1, h2⟩ := ih b (j := j) (by simpa using hj)
        exact ⟨v, by simpa using h1, h2⟩
/-- [a, b, ..][j], data -/
theorem ed_ixNew {ta : TA} {ds : List PyData} {d : PyData} {j : Nat} {i : Int} (h : EvDA K ta σ H ds) (hl : ds.length ≤ 100000) (hb : Ev tb σ H (.int i)) (ei : i = (j : Int)) (hj : ds[j]? = some d) : EvD K (tOp (rIxL K) (tLst ta) tb) σ H d := fun H1 e Q q =>
  h H1 e _ fun vs H2 e2 hvs => ⟨sz_of (by rw [DpAll.len hvs]; exact hl), fun p hp => hb _ ((e.trans e2).trans (Ex.new hp)) _ fun H3 e3 => by
    obtain ⟨v, h1, h2⟩ := dpAll_at hvs hj
    exact ⟨p, vs, i, v, rfl, rfl, sq_of (e3 p _ upd_same), at_of ei h1, q v H3 ((e2.trans (Ex.new hp)).trans e3) (Dp.ext ((Ex.new hp).trans e3) _ _ h2)⟩⟩
end
section
variable {K : PySem.W.Frag} {σ : L2.St} {H H' : Hp} {ta tb tc te tx tl : TE} {D : Ends} {tu tz : TS} {g : TG} {x y z v : V}
/-- for .. in reversed(f(..)): over a list that is made -/
theorem s_forRevP {C : Addr → List V → Hp → Prop} (h : EvP te σ H fun v H1 => ∃ p xs, v = .ref p ∧ H1 p = some (.lst xs) ∧ C p xs H1) (Pv : Addr → List V → Nat → L2.St → Hp → Prop) (h0 : ∀ p xs H1, Ex H H1 → H1 p = some (.lst xs) → C p xs H1 → Pv p xs 0 σ H1) (hl : ∀ p xs i σ' H', i ≤ xs.length → Pv p xs i σ' H' → SqL K H' p xs)
    (hs : ∀ p xs i x σ' H', xs[xs.length - 1 - i]? = some x → i < xs.length → Pv p xs i σ' H' → g x σ' H' fun σ2 H2 => tu { D with nx := Pv p xs (i + 1), ct := Pv p xs (i + 1), bk := D.nx } σ2 H2) (hd : ∀ p xs σ' H', Pv p xs xs.length σ' H' → D.nx σ' H') : tFor (iRev K (tCons te tNil)) g tu D σ H := by
  refine h H (Ex.refl H) _ fun v H1 e1 hv => ?_
  obtain ⟨p, xs, rfl, h1, hc⟩ := hv
  refine ⟨p, xs, rfl, sq_of h1, fun i m σ H => m = xs.length - i ∧ i ≤ xs.length ∧ Pv p xs i σ H, ⟨xs.length, by simp, Nat.zero_le _, h0 p xs H1 e1 h1 hc⟩, ?_⟩
  rintro i m σ H ⟨rfl, hi, pv⟩
  have q := hl p xs i σ H hi pv
  by_cases hlt : i < xs.length
  · have hx : xs[xs.length - 1 - i]? = some (xs[xs.length - 1 - i]'(by omega)) := List.getElem?_eq_getElem (by omega)
    refine .inr ⟨⟨hlt, xs, _, q, hx⟩, Pv p xs (i + 1), fun σ' H' p' => ⟨xs.length - (i + 1), by omega, rfl, hlt, p'⟩, fun x H' y => ?_⟩
    obtain ⟨rfl, hy⟩ := y
    exact hs p xs i x σ _ (hy xs q) hlt pv
  · have : i = xs.length := by omega
    subst this
    exact .inl ⟨Nat.le_refl _, hd p xs σ H pv⟩
theorem q_forRevP {C : Addr → List V → Hp → Prop} (h : EvP te σ H fun v H1 => ∃ p xs, v = .ref p ∧ H1 p = some (.lst xs) ∧ C p xs H1) (Pv : Addr → List V → Nat → L2.St → Hp → Prop) (h0 : ∀ p xs H1, Ex H H1 → H1 p = some (.lst xs) → C p xs H1 → Pv p xs 0 σ H1) (hl : ∀ p xs i σ' H', i ≤ xs.length → Pv p xs i σ' H' → SqL K H' p xs)
    (hs : ∀ p xs i x σ' H', xs[xs.length - 1 - i]? = some x → i < xs.length → Pv p xs i σ' H' → g x σ' H' fun σ2 H2 => tu { D with nx := Pv p xs (i + 1), ct := Pv p xs (i + 1), bk := tz D } σ2 H2) (hd : ∀ p xs σ' H', Pv p xs xs.length σ' H' → tz D σ' H') : tSeq (tFor (iRev K (tCons te tNil)) g tu) tz D σ H :=
  s_forRevP (D := { D with nx := tz D }) h Pv h0 hl hs hd
theorem q_forRevN {xs : List V} (h : EvL te σ H xs) (Pv : Addr → Nat → L2.St → Hp → Prop) (h0 : ∀ p H1, H p = none → Ex H H1 → H1 p = some (.lst xs) → Pv p 0 σ H1) (hl : ∀ p i σ' H', i ≤ xs.length → Pv p i σ' H' → SqL K H' p xs)
    (hs : ∀ p i x σ' H', xs[xs.length - 1 - i]? = some x → i < xs.length → Pv p i σ' H' → g x σ' H' fun σ2 H2 => tu { D with nx := Pv p (i + 1), ct := Pv p (i + 1), bk := tz D } σ2 H2) (hd : ∀ p σ' H', Pv p xs.length σ' H' → tz D σ' H') : tSeq (tFor (iRev K (tCons te tNil)) g tu) tz D σ H :=
  q_forRevP (C := fun p ys H1 => ys = xs ∧ H p = none ∧ H1 p = some (.lst xs)) (fun H1 e Q q => h H1 e Q fun p H2 np e2 h2 => q _ H2 e2 ⟨p, xs, rfl, h2, rfl, fresh_back e np, h2⟩) (fun p ys i σ' H' => ys = xs ∧ Pv p i σ' H') (fun p ys H1 e1 h1 ⟨a, b, c⟩ => ⟨a, h0 p H1 b e1 c⟩) (fun p ys i σ' H' hi ⟨a, b⟩ => by subst a; exact hl p i σ' H' hi b)
    (fun p ys i x σ' H' hx hi ⟨a, b⟩ => by
      subst a
      have key : ∀ σ2 H2, (fun σ H => Pv p (i + 1) σ H) σ2 H2 ↔ (ys = ys ∧ Pv p (i + 1) σ2 H2) := fun σ2 H2 => ⟨fun z => ⟨rfl, z⟩, fun z => z.2⟩
      have e : (fun σ2 H2 => ys = ys ∧ Pv p (i + 1) σ2 H2) = Pv p (i + 1) := by
        funext σ2 H2
        exact propext (key σ2 H2).symm
      rw [e]
      exact hs p i x σ' H' hx hi b) (fun p ys σ' H' ⟨a, b⟩ => by subst a; exact hd p σ' H' b)
/-- xs[i:j] of a new list -/
theorem el_slN {tl th : TO} {xs : List V} {lo hi : Option Int} (h : EvL te σ H xs) (h1 : ∀ H1, Ex H H1 → EvO tl σ H1 lo) (h2 : ∀ H1, Ex H H1 → EvO th σ H1 hi) : EvL (tSl (rSlL K) te tl th) σ H (cutV xs lo hi) := fun H1 e Q q =>
  h H1 e _ fun a H2 na e2 ha => h1 H2 (e.trans e2) H2 (Ex.refl _) _ fun H3 e3 => h2 H3 ((e.trans e2).trans e3) H3 (Ex.refl _) _ fun H4 e4 =>
    ⟨a, xs, rfl, sq_of ((e3.trans e4) a _ ha), fun p hp => q p _ (fresh_back ((e2.trans e3).trans e4) hp) (((e2.trans e3).trans e4).trans (Ex.new hp)) upd_same⟩
theorem cutV_from (xs : List V) (n : Nat) : cutV xs (some (n : Int)) none = xs.drop n := by
  unfold cutV
  rw [HT.sIx_none, HT.sIx_nat]
  by_cases h : n ≤ xs.length
  · rw [Nat.min_eq_left h, List.take_of_length_le (by rw [List.length_drop]; omega)]
  · rw [Nat.min_eq_right (by omega), List.drop_eq_nil_of_le (Nat.le_refl _), List.drop_eq_nil_of_le (by omega), List.take_nil]
theorem ev_bits {i : Int} (h : Ev te σ H (.int i)) : Ev (tBits te) σ H (.int (Builtin.Int.intBits i : Nat)) := fun H1 e Q q => h H1 e _ fun H2 e2 => ⟨i, rfl, q H2 e2⟩
/-- [e for j in range(a, b, -1)] -/
theorem el_lcDown {ta : TA} {te : TE} {j : Nat} {vs : List Nat} {a b : Int} {n : Nat} (v : Nat → V) (h : EvA ta σ H [.int a, .int b, .int (-1)]) (hn : (a - b).toNat = n) (ha : -100000 ≤ a ∧ a ≤ 100000) (hb : -100000 ≤ b ∧ b ≤ 100000) (hn2 : n ≤ 40000)
    (hw : ∀ x, wipe ((wipe σ vs).set j (some x)) vs = wipe σ vs) (he : ∀ (i : Nat) H1, Ex H H1 → i < n → Ev te ((wipe σ vs).set j (some (.int (a + (i : Nat) * (-1))))) H1 (v i)) : EvL (tLc (iRng3 ta) (gName j) tYes te vs) σ H ((List.range n).map v) := fun H1 e Q q =>
  h H1 e _ fun H2 e2 => ⟨a, b, -1, n, rfl, by rw [← hn]; exact RgC.neg (by omega) (by omega) (by omega) (by omega), fun Dl hD =>
    ⟨fun i m H' => m + i = n ∧ H2 Dl = none ∧ Ex H2 H' ∧ H' Dl = some (.lst ((List.range i).map v)), ⟨n, by omega, hD, Ex.new hD, upd_same⟩, fun i m H' hW => by
      obtain ⟨hm, hD2, e3, hl⟩ := hW
      by_cases hi : i < n
      · right
        refine ⟨hi, fun H' => (m - 1) + (i + 1) = n ∧ H2 Dl = none ∧ Ex H2 H' ∧ H' Dl = some (.lst ((List.range (i + 1)).map v)), fun H' q => ⟨m - 1, by omega, q⟩, ?_⟩
        rintro x H5 ⟨rfl, rfl⟩
        refine ⟨hw _, tt_yes ?_⟩
        refine he i _ ((e.trans e2).trans e3) hi _ (Ex.refl _) _ fun H6 e6 => ?_
        refine ⟨_, e6 Dl _ hl, sz_lt (by rw [List.length_map, List.length_range]; omega), by omega, hD2, Ex.mut (e3.trans e6) hD2, ?_⟩
        rw [upd_same, List.range_succ, List.map_append]
        rfl
      · left
        have hin : i = n := by omega
        subst hin
        exact ⟨Nat.le_refl _, q Dl H' (fresh_back e2 hD2) (e2.trans e3) hl⟩⟩⟩
theorem p2_abs (m : Nat) : ((2 : Int) ^ m).natAbs < 2 ^ (m + 1) := by
  rw [Int.natAbs_pow]
  exact Nat.pow_lt_pow_right (by decide) (Nat.lt_succ_self m)
theorem rv_divP {i : Int} {m : Nat} (h : m ≤ 8000) : RV (rI CDivW fun i j => .int (i / j)) (.int i) (.int (2 ^ m)) H (.int (i / 2 ^ m)) := rv_I (wide_div (b := m + 1) (Int.pow_pos (by decide)) (p2_abs m) (by omega) (by omega))
/-- 1 << m -/
theorem ev_shl1 {z : Int} {m : Nat} (h : Ev te σ H (.int z)) (e : z = (m : Int)) (hm : m ≤ 1000000) : Ev (tOp (rI CPow fun i j => .int (i * 2 ^ j.toNat)) (tC (.int 1)) te) σ H (.int (2 ^ m)) := by
  subst e
  refine ev_is (ev_op (ev_c (v := .int 1)) h (rv_shl ⟨by omega, by omega, by decide⟩)) ?_
  rw [Int.toNat_natCast, Int.one_mul]
/-- a list of lists of ints -/
def LL (H : Hp) (p : Addr) (cs : List (List Int)) : Prop := ∃ rs : List Addr, H p = some (.lst (rs.map V.ref)) ∧ rs.length = cs.length ∧ ∀ (j : Nat) (r : Addr) (c : List Int), rs[j]? = some r → cs[j]? = some c → H r = some (.lst (c.map V.int))
theorem LL.ext {p : Addr} {cs : List (List Int)} (e : Ex H H') (h : LL H p cs) : LL H' p cs := by
  obtain ⟨rs, h1, h2, h3⟩ := h
  exact ⟨rs, e _ _ h1, h2, fun j r c a b => e _ _ (h3 j r c a b)⟩
theorem LL.at_ {p : Addr} {cs : List (List Int)} (h : LL H p cs) {j : Nat} {c : List Int} (hc : cs[j]? = some c) : ∃ r, H r = some (.lst (c.map V.int)) ∧ ∀ {te ti : TE} {σ : L2.St} {H' : Hp} {i : Int}, Ex H H' → Ev te σ H' (.ref p) → Ev ti σ H' (.int i) → i = (j : Int) → Ev (tOp (rIxL K) te ti) σ H' (.ref r) := by
  obtain ⟨rs, h1, h2, h3⟩ := h
  obtain ⟨r, hr⟩ : ∃ r, rs[j]? = some r := ⟨_, List.getElem?_eq_getElem (by rw [h2]; exact (List.getElem?_eq_some_iff.mp hc).1)⟩
  refine ⟨r, h3 j r c hr hc, fun e a b ei => ev_op a b (rv_ixL (sq_of (e _ _ h1)) (at_of ei ?_))⟩
  rw [List.getElem?_map, hr]
  rfl
theorem LL.dp {p : Addr} {cs : List (List Int)} (h : LL H p cs) : Dp K H (.ref p) (.list (cs.map fun c => .list (c.map PyData.int))) := by
  obtain ⟨rs, h1, h2, h3⟩ := h
  refine .lst (sq_of h1) ?_
  clear h1
  induction cs generalizing rs with
  | nil =>
    have : rs = [] := List.length_eq_zero_iff.mp h2
    subst this
    exact .nil
  | cons c r ih =>
    match rs, h2, h3 with
    | a :: rs, h2, h3 => exact .cons (dp_listI (sq_of (h3 0 a c rfl rfl))) (ih rs (by simpa using h2) fun j r c a b => h3 (j + 1) r c a b)
theorem ll_eqv (cs : List (List Int)) : PyData.eqv (.list (cs.map fun c => .list (c.map PyData.int))) (.list (cs.map fun c => .list (c.map PyData.int))) = true := eqv_list (fun a => eqv_ints a) cs
theorem ll_shaped (cs : List (List Int)) : SeqAt.shaped (.list (cs.map fun c => .list (c.map PyData.int))) = true := shaped_list (n := 10) (by decide) (fun a => by simp only [PyData.canLay0]; exact canLayAll0_map (fun a => by simp [PyData.canLay0]) a) (fun a => by
  have := depthAll_map (f := PyData.int) (n := 1) (fun a => by simp [PyData.depth]) a
  simp only [PyData.depth]
  omega) cs
/-- [f(..), g(..), h(..), k(..)], four new lists -/
theorem ep_lst4L {t1 t2 t3 t4 : TE} {a b c d : List Int} (h1 : EvL t1 σ H (a.map V.int)) (h2 : EvL t2 σ H (b.map V.int)) (h3 : EvL t3 σ H (c.map V.int)) (h4 : EvL t4 σ H (d.map V.int)) : EvP (tLst (tCons t1 (tCons t2 (tCons t3 (tCons t4 tNil))))) σ H fun v H' => ∃ p, v = .ref p ∧ H p = none ∧ LL H' p [a, b, c, d] := fun H0 e0 Q q =>
  h1 H0 e0 _ fun p1 H1 n1 e1 x1 => h2 H1 (e0.trans e1) _ fun p2 H2 n2 e2 x2 => h3 H2 ((e0.trans e1).trans e2) _ fun p3 H3 n3 e3 x3 => h4 H3 (((e0.trans e1).trans e2).trans e3) _ fun p4 H4 n4 e4 x4 => ⟨by show 4 ≤ sizeLine; decide, fun l hl => by
    have e14 := (e2.trans e3).trans e4
    have e5 : Ex H4 (upd H4 l (.lst [.ref p1, .ref p2, .ref p3, .ref p4])) := Ex.new hl
    refine q _ _ ((e1.trans e14).trans e5) ⟨l, rfl, fresh_back (e0.trans (e1.trans e14)) hl, [p1, p2, p3, p4], upd_same, rfl, fun j r cc hr hc => ?_⟩
    match j, hr, hc with
    | 0, hr, hc =>
      cases hr
      cases hc
      exact (e14.trans e5) _ _ x1
    | 1, hr, hc =>
      cases hr
      cases hc
      exact ((e3.trans e4).trans e5) _ _ x2
    | 2, hr, hc =>
      cases hr
      cases hc
      exact (e4.trans e5) _ _ x3
    | 3, hr, hc =>
      cases hr
      cases hc
      exact e5 _ _ x4⟩
theorem given_all (n : Nat) (v : Nat → V) : given n (fun _ => true) v = (List.range n).map v := by
  unfold given
  rw [List.filter_eq_self.mpr fun _ _ => rfl]
/-- [e for j in range(n)] -/
theorem el_lcN {ta : TA} {te : TE} {j : Nat} {vs : List Nat} {n : Nat} {z : Int} (v : Nat → V) (h : EvA ta σ H [.int z]) (ez : z = (n : Int)) (hn : n ≤ 40000) (hw : ∀ x, wipe ((wipe σ vs).set j (some x)) vs = wipe σ vs) (he : ∀ (i : Nat) H1, Ex H H1 → i < n → Ev te ((wipe σ vs).set j (some (.int (i : Int)))) H1 (v i)) :
    EvL (tLc (iRng1 ta) (gName j) tYes te vs) σ H ((List.range n).map v) := by
  subst ez
  rw [← given_all]
  have := el_lcR1 (σ := σ) (H := H) (te := te) (j := j) (vs := vs) (fun _ => true) v h ⟨by omega, by omega⟩ hw (fun i H1 e hi => et_yes) (fun i H1 e hi _ => he i H1 e (by omega))
  rwa [Int.toNat_natCast] at this
theorem cutV_ints (ns : List Int) (lo hi : Option Int) : ∃ ys : List Int, cutV (ns.map V.int) lo hi = ys.map V.int ∧ ys.length ≤ ns.length ∧ ∀ y ∈ ys, y ∈ ns := by
  refine ⟨(ns.drop (HT.sIx ns.length 0 lo)).take (HT.sIx ns.length ns.length hi - HT.sIx ns.length 0 lo), ?_, ?_, fun y hy => List.mem_of_mem_drop (List.mem_of_mem_take hy)⟩
  · unfold cutV
    rw [List.length_map, List.map_take, List.map_drop]
  · rw [List.length_take, List.length_drop]
    omega
/-- [f(x) for x in xs], xs a new list of ints -/
theorem el_lcMap {tl : TE} {j : Nat} {vs : List Nat} {xs : List Int} (f : Int → Int) (h : EvL tl σ H (xs.map V.int)) (hz : xs.length ≤ 40000) (hw : ∀ x, wipe ((wipe σ vs).set j (some x)) vs = wipe σ vs)
    (he : ∀ (x : Int) H1, x ∈ xs → Ex H H1 → Ev te ((wipe σ vs).set j (some (.int x))) H1 (.int (f x))) : EvL (tLc (iList K tl) (gName j) tYes te vs) σ H ((xs.map f).map V.int) := by
  have e : (xs.map f).map V.int = given (xs.map V.int).length (fun _ => true) (fun i => V.int (f (xs.getD i 0))) := by
    rw [given_all, List.length_map]
    refine List.ext_getElem (by simp) fun i h1 h2 => ?_
    have hi : i < xs.length := by simpa using h1
    simp only [List.getElem_map, List.getElem_range]
    rw [List.getD_eq_getElem?_getD, List.getElem?_eq_getElem hi]
    rfl
  rw [e]
  refine el_lcNL (K := K) _ _ h (by rw [List.length_map]; exact hz) hw (fun i x H1 e1 hx => et_yes) (fun i x H1 e1 hx _ => ?_)
  have hi : i < xs.length := by
    have := (List.getElem?_eq_some_iff.mp hx).1
    rwa [List.length_map] at this
  rw [int_at hi] at hx
  have ex := Option.some.inj hx
  subst ex
  have hmem : xs.getD i 0 ∈ xs := by
    rw [List.getD_eq_getElem?_getD, List.getElem?_eq_getElem hi]
    exact List.getElem_mem hi
  exact he _ H1 hmem e1
theorem s_retXS {sp : Sp} {E : L2.St → XK} {vs : List V} {ta : TA} (h : EvA ta σ H vs) (k : ∀ H1, Ex H H1 → sp vs H1 D.rt (E σ)) : tRet (tCallS sp E ta) D σ H := h H (Ex.refl H) _ fun H1 e1 => k H1 e1
/-- return e.name, e.place -/
theorem s_caught {a C d : Addr} {nm : Str} {i : Int} {j : Nat} (hσ : σ[j]? = some (some (.ref a))) (hd : H d = some (.xd (flds nm i))) (q : RetT [.str nm, .int i] H D.rt) : tRet (tTup (tCons (tXf a (.ref C) (some d) C "name" (tVar j)) (tCons (tXf a (.ref C) (some d) C "place" (tVar j)) tNil))) D σ H :=
  ⟨_, hσ, rfl, rfl, d, _, _, rfl, hd, rfl, _, hσ, rfl, rfl, d, _, _, rfl, hd, rfl, by show 2 ≤ sizeLine; decide, fun p hp => q p _ hp (Ex.new hp) upd_same⟩
end
theorem passE0 {X : Cx} : Passes (L2.CX X.prog X.w) X E0 := fun _ _ _ _ _ _ _ ⟨_, _, _, _, _, _, _, _, _, _, _, _, h⟩ => h.elim
theorem len_seqK {X : Cx} {K : PySem.W.Frag} (h : X.K = K) : CallR X (.builtin "len") (Evl.rLenS K) := by
  subst h
  exact call_len_seq
theorem sl_listK {X : Cx} {K : PySem.W.Frag} (h : X.K = K) : SlR X (rSlL K) := by
  subst h
  exact sl_list
theorem op_eqDK {X : Cx} {K : PySem.W.Frag} (hu : X.A.units + 64 < cLine) (h : X.K = K) : OpR X (compareOp .Eq) (rEqD K) := by
  subst h
  exact op_eqD hu
theorem op_notIn_seqK {X : Cx} {K : PySem.W.Frag} (h : X.K = K) : OpR X (compareOp .NotIn) (rIn K true) := by
  subst h
  exact op_notIn_seq
/-- what is never reached -/
theorem ps_never {X : Cx} {st : Stmt} : PS X st (fun _ _ _ => False) := ⟨fun _ _ _ _ _ _ h => h.elim⟩
/-- a call in a try's body -/
theorem pe_callXS {X : Cx} {nm : Str} {k : Nat} {ps : List Str} {sp : Sp} {E : L2.St → XK} {p pos : Pos} {e : Expr} {es : List Expr} {t : TA} (C : CalX X.prog X.w X.K X.mg X.base nm k ps sp) (hr : Room k X.A) (hg : Gl X nm) (hx : ∀ σ, PassesAt (L2.CX X.prog X.w) X σ (E σ)) (ha : PA X (e :: es) t)
    (hdb : (nm == ("__debug__" : Str)) = false := by decide) (he : starEach (e :: es) X.env = (false, eval e X.env) :: starEach es X.env := by rfl) (hpl : (backTo pos (starEach es X.env)).any (·.1) = false := by rfl) :
    PE X (.Call (.Name nm p) (e :: es) [] pos) (tCallS sp E t) := by
  obtain ⟨f, fd, h1, h2, h3, h4⟩ := C.out
  exact pe_callS h4 hr hg h1 h2 h3 hx ha hdb he hpl
end KQ
set_option linter.all false
set_option exponentiation.threshold 2000
/-! Pushing and popping. -/
namespace M12
open M08 M09 M10
def psh (row : List Int) (s : Nat) (x : Int) : Int := x / row.getD s 0 * row.sum + (row.take s).sum + x % row.getD s 0
def ppS (row : List Int) (y : Int) : Nat := symAt row (y % row.sum)
def ppR (row : List Int) (y : Int) : Int := row.getD (ppS row y) 0 * (y / row.sum) + y % row.sum - (row.take (ppS row y)).sum
theorem take_le {n : Nat} {row : List Int} {s : Nat} (hr : RowOk n row) (hs : s < n) : 0 ≤ (row.take s).sum ∧ (row.take s).sum + row.getD s 0 = (row.take (s + 1)).sum ∧ (row.take (s + 1)).sum ≤ row.sum := by
  have e : row.sum = (row.take (s + 1)).sum + (row.drop (s + 1)).sum := by rw [← List.sum_append, List.take_append_drop]
  have h := sum_nonneg (row.drop (s + 1)) fun x hx => hr.2.1 x (List.mem_of_mem_drop hx)
  have h2 := sum_take_succ row s (by rw [hr.1]; exact hs)
  exact ⟨take_nonneg hr.2.1 s, by omega, by omega⟩
theorem psh_nonneg {n : Nat} {row : List Int} {s : Nat} {x : Int} (hr : RowOk n row) (hs : s < n) (hw : 1 ≤ row.getD s 0) (hx : 0 ≤ x) : 0 ≤ psh row s x := by
  obtain ⟨h1, h2, h3⟩ := take_le hr hs
  have a := Int.ediv_nonneg hx (show 0 ≤ row.getD s 0 by omega)
  have b := Int.emod_nonneg x (show row.getD s 0 ≠ 0 by omega)
  have c := Int.mul_nonneg a (show 0 ≤ row.sum by have := hr.2.2; omega)
  unfold psh
  omega
/-- popping undoes pushing -/
theorem pop_push {n : Nat} {row : List Int} {s : Nat} {x : Int} (hr : RowOk n row) (hs : s < n) (hw : 1 ≤ row.getD s 0) (hx : 0 ≤ x) : ppS row (psh row s x) = s ∧ ppR row (psh row s x) = x := by
  obtain ⟨h1, h2, h3⟩ := take_le hr hs
  have ht := hr.2.2
  have b := Int.emod_nonneg x (show row.getD s 0 ≠ 0 by omega)
  have b2 := Int.emod_lt_of_pos x (show 0 < row.getD s 0 by omega)
  have e1 : psh row s x % row.sum = (row.take s).sum + x % row.getD s 0 := by
    unfold psh
    rw [Int.add_assoc, Int.add_comm, Int.add_mul_emod_self_right]
    exact Int.emod_eq_of_lt (by omega) (by omega)
  have e2 : psh row s x / row.sum = x / row.getD s 0 := by
    unfold psh
    rw [Int.add_assoc, Int.add_comm, Int.add_mul_ediv_right _ _ (show row.sum ≠ 0 by omega), Int.ediv_eq_zero_of_lt (by omega) (by omega), Int.zero_add]
  have e3 : ppS row (psh row s x) = s := by
    unfold ppS
    rw [e1]
    exact symAt_uniq row _ s hr.2.1 (by rw [hr.1]; exact hs) (by omega) (by omega)
  refine ⟨e3, ?_⟩
  unfold ppR
  rw [e3, e1, e2]
  have := Int.mul_ediv_add_emod x (row.getD s 0)
  omega
/-- pushing undoes popping -/
theorem push_pop {n : Nat} {row : List Int} {y : Int} (hr : RowOk n row) (hy : 0 ≤ y) : ppS row y < n ∧ 1 ≤ row.getD (ppS row y) 0 ∧ 0 ≤ ppR row y ∧ psh row (ppS row y) (ppR row y) = y := by
  have ht := hr.2.2
  have a0 := Int.emod_nonneg y (show row.sum ≠ 0 by omega)
  have a1 := Int.emod_lt_of_pos y (show 0 < row.sum by omega)
  obtain ⟨g1, g2, g3⟩ := symAt_spec row (y % row.sum) hr.2.1 a0 a1
  have gS : ppS row y = symAt row (y % row.sum) := rfl
  rw [← gS] at g1 g2 g3
  rw [hr.1] at g1
  obtain ⟨h1, h2, h3⟩ := take_le hr g1
  have hw : 1 ≤ row.getD (ppS row y) 0 := by omega
  have hd := Int.ediv_nonneg hy (show 0 ≤ row.sum by omega)
  have hm := Int.mul_nonneg (show 0 ≤ row.getD (ppS row y) 0 by omega) hd
  have hR : ppR row y = row.getD (ppS row y) 0 * (y / row.sum) + (y % row.sum - (row.take (ppS row y)).sum) := by
    unfold ppR
    omega
  refine ⟨g1, hw, by omega, ?_⟩
  have e1 : ppR row y % row.getD (ppS row y) 0 = y % row.sum - (row.take (ppS row y)).sum := by
    rw [hR, Int.add_comm, Int.add_mul_emod_self_left]
    exact Int.emod_eq_of_lt (by omega) (by omega)
  have e2 : ppR row y / row.getD (ppS row y) 0 = y / row.sum := by
    rw [hR, Int.add_comm, Int.add_mul_ediv_left _ _ (show row.getD (ppS row y) 0 ≠ 0 by omega), Int.ediv_eq_zero_of_lt (by omega) (by omega), Int.zero_add]
  unfold psh
  rw [e1, e2]
  have := Int.mul_ediv_add_emod y row.sum
  rw [Int.mul_comm] at this
  omega
/-! messages -/
def pk : Md → List Nat → Int → Int
  | _, [], x => x
  | m, s :: r, x => psh m.row s (pk (m.learn s) r x)
def upk : Md → Nat → Int → List Nat × Int
  | _, 0, y => ([], y)
  | m, c + 1, y => (ppS m.row y :: (upk (m.learn (ppS m.row y)) c (ppR m.row y)).1, (upk (m.learn (ppS m.row y)) c (ppR m.row y)).2)
def Fit (n : Nat) : Md → List Nat → Prop
  | _, [] => True
  | m, s :: r => s < n ∧ 1 ≤ m.row.getD s 0 ∧ Fit n (m.learn s) r
theorem fit_msg {n : Nat} : ∀ (msg : List Nat) (m : Md), Ok n m → Msg n m msg → Fit n m msg
  | [], _, _, _ => True.intro
  | s :: r, m, g, h => by
    have h0 := h s List.mem_cons_self
    refine ⟨h0.1, h0.2.row g, fit_msg r (m.learn s) (g.learn h0.1) ?_⟩
    have := Msg.learn h g h0.1
    exact fun a ha => this a (List.mem_cons_of_mem _ ha)
theorem fit_lt {n : Nat} : ∀ {msg : List Nat} {m : Md}, Fit n m msg → ∀ s ∈ msg, s < n
  | [], _, _, s, hs => absurd hs List.not_mem_nil
  | a :: r, m, h, s, hs => by
    rcases List.mem_cons.mp hs with y | y
    · rw [y]
      exact h.1
    · exact fit_lt h.2.2 s y
theorem fit_at {n : Nat} : ∀ {msg : List Nat} {m : Md} {i s : Nat}, Fit n m msg → msg[i]? = some s → 1 ≤ (mds m (msg.take i)).row.getD s 0
  | [], m, i, s, _, h => by simp at h
  | a :: r, m, 0, s, hf, h => by
    have : a = s := by simpa using h
    subst this
    exact hf.2.1
  | a :: r, m, i + 1, s, hf, h => fit_at (msg := r) (m := m.learn a) hf.2.2 (by simpa using h)
theorem pk_nonneg {n : Nat} : ∀ (msg : List Nat) (m : Md) {x : Int}, Ok n m → Fit n m msg → 0 ≤ x → 0 ≤ pk m msg x
  | [], _, _, _, _, hx => hx
  | s :: r, m, _, g, hf, hx => psh_nonneg g.row hf.1 hf.2.1 (pk_nonneg r _ (g.learn hf.1) hf.2.2 hx)
theorem upk_pk {n : Nat} : ∀ (msg : List Nat) (m : Md) {x : Int}, Ok n m → Fit n m msg → 0 ≤ x → upk m msg.length (pk m msg x) = (msg, x)
  | [], _, _, _, _, _ => rfl
  | s :: r, m, x, g, hf, hx => by
    have h0 := pk_nonneg r (m.learn s) (g.learn hf.1) hf.2.2 hx
    obtain ⟨e1, e2⟩ := pop_push g.row hf.1 hf.2.1 h0
    have ih := upk_pk r (m.learn s) (g.learn hf.1) hf.2.2 hx
    show upk m (r.length + 1) (psh m.row s (pk (m.learn s) r x)) = _
    unfold upk
    rw [e1, e2, ih]
theorem pk_upk {n : Nat} : ∀ (c : Nat) (m : Md) {y : Int}, Ok n m → 0 ≤ y → Fit n m (upk m c y).1 ∧ (upk m c y).1.length = c ∧ 0 ≤ (upk m c y).2 ∧ pk m (upk m c y).1 (upk m c y).2 = y
  | 0, _, _, _, hy => ⟨True.intro, rfl, hy, rfl⟩
  | c + 1, m, y, g, hy => by
    obtain ⟨a, b, d, e⟩ := push_pop g.row hy
    obtain ⟨i1, i2, i3, i4⟩ := pk_upk c (m.learn (ppS m.row y)) (g.learn a) d
    refine ⟨⟨a, b, i1⟩, ?_, i3, ?_⟩
    · show ((upk (m.learn (ppS m.row y)) c (ppR m.row y)).1).length + 1 = c + 1
      rw [i2]
    · show psh m.row (ppS m.row y) (pk (m.learn (ppS m.row y)) (upk (m.learn (ppS m.row y)) c (ppR m.row y)).1 (upk (m.learn (ppS m.row y)) c (ppR m.row y)).2) = y
      rw [i4, e]
/-- a further symbol -/
theorem upk_snoc : ∀ (c : Nat) (m : Md) (y : Int), (upk m (c + 1) y).1 = (upk m c y).1 ++ [ppS (mds m (upk m c y).1).row (upk m c y).2] ∧ (upk m (c + 1) y).2 = ppR (mds m (upk m c y).1).row (upk m c y).2
  | 0, m, y => ⟨rfl, rfl⟩
  | c + 1, m, y => by
    obtain ⟨a, b⟩ := upk_snoc c (m.learn (ppS m.row y)) (ppR m.row y)
    constructor
    · show ppS m.row y :: (upk (m.learn (ppS m.row y)) (c + 1) (ppR m.row y)).1 = _
      rw [a]
      rfl
    · exact b
/-- from the last symbol on -/
theorem pk_drop {msg : List Nat} {m : Md} {x : Int} {i s : Nat} (h : msg[i]? = some s) : pk (mds m (msg.take i)) (msg.drop i) x = psh (mds m (msg.take i)).row s (pk (mds m (msg.take (i + 1))) (msg.drop (i + 1)) x) := by
  obtain ⟨h1, e⟩ := List.getElem?_eq_some_iff.mp h
  have ed : msg.drop i = s :: msg.drop (i + 1) := by rw [← e]; exact List.drop_eq_getElem_cons h1
  have et : msg.take (i + 1) = msg.take i ++ [s] := by rw [← e, List.take_append_getElem h1]
  rw [ed, et, mds_snoc]
  rfl
theorem mds_rows_len {n : Nat} {msg : List Nat} {m : Md} (g : Good n m) (h : ∀ s ∈ msg, s < n) : (mds m msg).row.length = n := (mds_good msg m g h).ok.row.1
end M12
set_option linter.all false
set_option exponentiation.threshold 2000
/-! Messages in words. -/
namespace M13
open M08 M09 M10 M12
/-- words out of a state until it is below e -/
def nrm (e : Int) : Nat → Int → List Int × Int
  | 0, x => ([], x)
  | f + 1, x => if e ≤ x then (x % 256 :: (nrm e f (x / 256)).1, (nrm e f (x / 256)).2) else ([], x)
def endOf (row : List Int) (s : Nat) : Int := 16777216 / row.sum * row.getD s 0
/-- the state and the words of a message -/
def pkw (row : List Int) : List Nat → Int × List Int
  | [] => (65536, [])
  | s :: r => (psh row s (nrm (endOf row s) 4 (pkw row r).1).2, (nrm (endOf row s) 4 (pkw row r).1).1.reverse ++ (pkw row r).2)
/-- words into a state until it is at least 65536 -/
def rf (ws : List Int) : Nat → Int → Nat → Option (Int × Nat)
  | 0, x, u => some (x, u)
  | f + 1, x, u => if x < 65536 then (if ws.length ≤ u then none else rf ws f (x * 256 + ws.getD u 0) (u + 1)) else some (x, u)
def upw (row ws : List Int) : Nat → Int → Nat → List Nat → Option (List Nat × Int × Nat)
  | 0, y, u, acc => some (acc, y, u)
  | c + 1, y, u, acc => match rf ws 3 (ppR row y) u with
    | none => none
    | some (x, v) => upw row ws c x v (acc ++ [ppS row y])
theorem rf_big {ws : List Int} {x : Int} {u : Nat} (h : 65536 ≤ x) : ∀ f, rf ws f x u = some (x, u)
  | 0 => rfl
  | f + 1 => by
    unfold rf
    rw [if_neg (by omega)]
structure Tot (n : Nat) (row : List Int) : Prop where
  ok : RowOk n row
  dv : ∃ d : Int, row.sum * d = 65536
theorem Tot.fact {n : Nat} {row : List Int} (h : Tot n row) : ∃ d : Int, 1 ≤ d ∧ row.sum * d = 65536 ∧ 16777216 / row.sum = 256 * d ∧ row.sum ≤ 65536 := by
  obtain ⟨d, hd⟩ := h.dv
  have hs := h.ok.2.2
  have h1 : 1 ≤ d := by
    rcases Int.lt_or_le d 1 with z | z
    · have := Int.mul_le_mul_of_nonneg_left (show d ≤ 0 by omega) (show 0 ≤ row.sum by omega)
      omega
    · exact z
  refine ⟨d, h1, hd, ?_, ?_⟩
  · have e : (16777216 : Int) = row.sum * (256 * d) := by
      have : row.sum * (256 * d) = 256 * (row.sum * d) := by grind
      omega
    rw [e, Int.mul_ediv_cancel_left _ (by omega)]
  · have := Int.mul_le_mul_of_nonneg_left h1 (show 0 ≤ row.sum by omega)
    omega
theorem weight_le {n : Nat} {row : List Int} {s : Nat} (hr : RowOk n row) (hs : s < n) : row.getD s 0 ≤ row.sum := by
  obtain ⟨a, b, c⟩ := take_le hr hs
  omega
/-- after the words are taken out -/
theorem nrm_bd {d w : Int} (hd : 1 ≤ d) (hw : 1 ≤ w) : ∀ (f : Nat) (x : Int), d * w ≤ x → x < 256 ^ f → d * w ≤ (nrm (256 * d * w) f x).2 ∧ (nrm (256 * d * w) f x).2 < 256 * d * w ∧ (nrm (256 * d * w) f x).1.length ≤ f
  | 0, x, h1, h2 => by
    have := Int.mul_pos (show 0 < d by omega) (show 0 < w by omega)
    simp at h2
    omega
  | f + 1, x, h1, h2 => by
    have e : 256 * d * w = 256 * (d * w) := by grind
    unfold nrm
    by_cases z : 256 * d * w ≤ x
    · rw [if_pos z]
      obtain ⟨a, b, c⟩ := nrm_bd hd hw f (x / 256) (by omega) (by rw [Int.pow_succ] at h2; omega)
      exact ⟨a, b, by simp; omega⟩
    · rw [if_neg z]
      exact ⟨h1, by simp only; omega, Nat.zero_le _⟩
/-- the state stays in its bounds -/
theorem push_bd {n : Nat} {row : List Int} {s : Nat} {x : Int} (h : Tot n row) (hs : s < n) (hw : 1 ≤ row.getD s 0) (hx : 65536 ≤ x) (hx2 : x < 16777216) : 1 ≤ (nrm (endOf row s) 4 x).2 ∧ 65536 ≤ psh row s (nrm (endOf row s) 4 x).2 ∧ psh row s (nrm (endOf row s) 4 x).2 < 16777216 ∧ (nrm (endOf row s) 4 x).1.length ≤ 4 := by
  obtain ⟨d, hd1, hd, hq, _⟩ := h.fact
  have hwl := weight_le h.ok hs
  obtain ⟨t1, t2, t3⟩ := take_le h.ok hs
  have he : endOf row s = 256 * d * row.getD s 0 := by
    unfold endOf
    rw [hq]
  rw [he]
  have hdw : d * row.getD s 0 ≤ 65536 := by
    have := Int.mul_le_mul_of_nonneg_left hwl (show 0 ≤ d by omega)
    rw [Int.mul_comm d row.sum] at this
    omega
  obtain ⟨a, b, c⟩ := nrm_bd hd1 hw 4 x (by omega) (by have : (256 : Int) ^ 4 = 4294967296 := by decide
                                                       omega)
  generalize nrm (256 * d * row.getD s 0) 4 x = r at a b c
  have hdp := Int.mul_pos (show 0 < d by omega) (show 0 < row.getD s 0 by omega)
  have q1 : d ≤ r.2 / row.getD s 0 := (Int.le_ediv_iff_mul_le (by omega)).mpr a
  have q2 : r.2 / row.getD s 0 < 256 * d := Int.ediv_lt_of_lt_mul (by omega) b
  have m0 := Int.emod_nonneg r.2 (show row.getD s 0 ≠ 0 by omega)
  have m1 := Int.emod_lt_of_pos r.2 (show 0 < row.getD s 0 by omega)
  have g1 : d * row.sum ≤ r.2 / row.getD s 0 * row.sum := Int.mul_le_mul_of_nonneg_right q1 (by omega)
  have g2 : r.2 / row.getD s 0 * row.sum ≤ (256 * d - 1) * row.sum := Int.mul_le_mul_of_nonneg_right (by omega) (by omega)
  have g3 : (256 * d - 1) * row.sum = 256 * (row.sum * d) - row.sum := by grind
  rw [Int.mul_comm d row.sum] at g1
  refine ⟨by omega, ?_, ?_, c⟩
  · unfold psh
    omega
  · unfold psh
    omega
theorem pkw_bd {n : Nat} {row : List Int} (h : Tot n row) : ∀ msg : List Nat, (∀ s ∈ msg, s < n ∧ 1 ≤ row.getD s 0) → 65536 ≤ (pkw row msg).1 ∧ (pkw row msg).1 < 16777216 ∧ (pkw row msg).2.length ≤ 4 * msg.length
  | [], _ => ⟨show (65536 : Int) ≤ 65536 by decide, show (65536 : Int) < 16777216 by decide, Nat.le_refl _⟩
  | s :: r, hm => by
    obtain ⟨a, b, c⟩ := pkw_bd h r fun x hx => hm x (List.mem_cons_of_mem _ hx)
    have h0 := hm s List.mem_cons_self
    obtain ⟨e, f, g, l⟩ := push_bd h h0.1 h0.2 a b
    refine ⟨f, g, ?_⟩
    show ((nrm (endOf row s) 4 (pkw row r).1).1.reverse ++ (pkw row r).2).length ≤ _
    rw [List.length_append, List.length_reverse, List.length_cons]
    omega
/-- what was taken out comes back -/
theorem rf_nrm {e : Int} {ws : List Int} : ∀ (f F : Nat) (x : Int) (u : Nat) (rest : List Int), x < 16777216 → (nrm e f x).1.length ≤ F → ws.drop u = (nrm e f x).1.reverse ++ rest → rf ws F (nrm e f x).2 u = rf ws (F - (nrm e f x).1.length) x (u + (nrm e f x).1.length)
  | 0, F, x, u, rest, _, _, _ => rfl
  | f + 1, F, x, u, rest, hx, hF, hd => by
    unfold nrm at hF hd ⊢
    by_cases z : e ≤ x
    · rw [if_pos z] at hF hd ⊢
      simp only [List.length_cons, List.reverse_cons, List.append_assoc] at hF hd ⊢
      have hx2 : x / 256 < 65536 := by omega
      rw [rf_nrm f F (x / 256) u ([x % 256] ++ rest) (by omega) (by omega) hd]
      generalize (nrm e f (x / 256)).1 = em at *
      obtain ⟨g, hg⟩ : ∃ g, F - em.length = g + 1 := ⟨F - em.length - 1, by omega⟩
      have hlen : (ws.drop u).length = em.length + (rest.length + 1) := by rw [hd]; simp
      rw [List.length_drop] at hlen
      have hat : ws.getD (u + em.length) 0 = x % 256 := by
        have : (ws.drop u)[em.length]? = some (x % 256) := by
          rw [hd, List.getElem?_append_right (by simp)]
          simp
        rw [List.getElem?_drop] at this
        rw [List.getD_eq_getElem?_getD, this]
        rfl
      have st : rf ws (g + 1) (x / 256) (u + em.length) = if x / 256 < 65536 then (if ws.length ≤ u + em.length then none else rf ws g (x / 256 * 256 + ws.getD (u + em.length) 0) (u + em.length + 1)) else some (x / 256, u + em.length) := rfl
      rw [hg, st, if_pos hx2, if_neg (by omega), hat, show F - (em.length + 1) = g by omega, show u + (em.length + 1) = u + em.length + 1 by omega]
      rw [show x / 256 * 256 + x % 256 = x by omega]
    · rw [if_neg z] at hF hd ⊢
      rfl
theorem upw_pkw {n : Nat} {row ws : List Int} (h : Tot n row) : ∀ (msg : List Nat) (u : Nat) (acc : List Nat) (rest : List Int), (∀ s ∈ msg, s < n ∧ 1 ≤ row.getD s 0) → ws.drop u = (pkw row msg).2 ++ rest → upw row ws msg.length (pkw row msg).1 u acc = some (acc ++ msg, 65536, u + (pkw row msg).2.length)
  | [], u, acc, rest, _, _ => by
    show some (acc, (65536 : Int), u) = _
    simp [pkw]
  | s :: r, u, acc, rest, hm, hd => by
    have hr : ∀ x ∈ r, x < n ∧ 1 ≤ row.getD x 0 := fun x hx => hm x (List.mem_cons_of_mem _ hx)
    obtain ⟨a, b, c⟩ := pkw_bd h r hr
    have h0 := hm s List.mem_cons_self
    obtain ⟨y1, p1, p2, yl⟩ := push_bd h h0.1 h0.2 a b
    obtain ⟨e1, e2⟩ := pop_push h.ok h0.1 h0.2 (show 0 ≤ (nrm (endOf row s) 4 (pkw row r).1).2 by omega)
    have hd2 : ws.drop u = (nrm (endOf row s) 4 (pkw row r).1).1.reverse ++ ((pkw row r).2 ++ rest) := by
      rw [hd]
      show ((nrm (endOf row s) 4 (pkw row r).1).1.reverse ++ (pkw row r).2) ++ rest = _
      rw [List.append_assoc]
    have hl3 : (nrm (endOf row s) 4 (pkw row r).1).1.length ≤ 3 := by
      -- three words leave nothing
      have key : ∀ (e x : Int) (f : Nat), 1 ≤ e → x < 16777216 → 0 ≤ x → (nrm e f x).1.length ≤ 3 := fun e x f he hx h0 => by
        have z0 : ∀ (f : Nat) (x : Int), x < 1 → (nrm e f x).1.length = 0 := fun f x hx => by
          cases f with
          | zero => rfl
          | succ f => unfold nrm; rw [if_neg (by omega)]; rfl
        have z1 : ∀ (f : Nat) (x : Int), x < 256 → (nrm e f x).1.length ≤ 1 := fun f x hx => by
          cases f with
          | zero => exact Nat.zero_le _
          | succ f =>
            unfold nrm
            split
            · simp [List.length_eq_zero_iff.mp (z0 f (x / 256) (by omega))]
            · exact Nat.zero_le _
        have z2 : ∀ (f : Nat) (x : Int), x < 65536 → (nrm e f x).1.length ≤ 2 := fun f x hx => by
          cases f with
          | zero => exact Nat.zero_le _
          | succ f =>
            unfold nrm
            split
            · have := z1 f (x / 256) (by omega)
              simp; omega
            · exact Nat.zero_le _
        cases f with
        | zero => exact Nat.zero_le _
        | succ f =>
          unfold nrm
          split
          · have := z2 f (x / 256) (by omega)
            simp; omega
          · exact Nat.zero_le _
      obtain ⟨d, hd1, hdd, hq, _⟩ := h.fact
      have hdw := Int.mul_pos (show 0 < 256 * d by omega) (show 0 < row.getD s 0 by omega)
      exact key _ _ 4 (by unfold endOf; rw [hq]; omega) b (by omega)
    have hrf := rf_nrm 4 3 (pkw row r).1 u _ b hl3 hd2
    rw [rf_big a] at hrf
    have hd3 : ws.drop (u + (nrm (endOf row s) 4 (pkw row r).1).1.length) = (pkw row r).2 ++ rest := by
      rw [← List.drop_drop, hd2, ← List.length_reverse (as := (nrm (endOf row s) 4 (pkw row r).1).1), List.drop_left]
    have ih := upw_pkw h r (u + (nrm (endOf row s) 4 (pkw row r).1).1.length) (acc ++ [s]) rest hr hd3
    show (match rf ws 3 (ppR row (psh row s (nrm (endOf row s) 4 (pkw row r).1).2)) u with
      | none => none
      | some (x, v) => upw row ws r.length x v (acc ++ [ppS row (psh row s (nrm (endOf row s) 4 (pkw row r).1).2)])) = _
    rw [e1, e2, hrf]
    simp only
    rw [ih]
    show some (acc ++ [s] ++ r, (65536 : Int), _) = some (acc ++ s :: r, (65536 : Int), u + ((nrm (endOf row s) 4 (pkw row r).1).1.reverse ++ (pkw row r).2).length)
    rw [List.append_assoc, List.length_append, List.length_reverse]
    simp [Nat.add_assoc]
theorem rf_take {ws : List Int} {j : Nat} (hj : j ≤ ws.length) : ∀ (f : Nat) (x : Int) (u : Nat) (z : Int) (v : Nat), u ≤ j → rf ws f x u = some (z, v) → u ≤ v ∧ (v ≤ j → rf (ws.take j) f x u = some (z, v)) ∧ (j < v → rf (ws.take j) f x u = none)
  | 0, x, u, z, v, hu, h => by
    cases h
    exact ⟨Nat.le_refl _, fun _ => rfl, fun y => absurd y (by omega)⟩
  | f + 1, x, u, z, v, hu, h => by
    unfold rf at h ⊢
    by_cases c : x < 65536
    · rw [if_pos c] at h ⊢
      by_cases e : ws.length ≤ u
      · rw [if_pos e] at h
        cases h
      · rw [if_neg e] at h
        by_cases y : u = j
        · subst y
          rw [if_pos (by rw [List.length_take]; omega)]
          have hv : u + 1 ≤ v := by
            have mono : ∀ (f : Nat) (x : Int) (u : Nat) (z : Int) (v : Nat), rf ws f x u = some (z, v) → u ≤ v := fun f => by
              induction f with
              | zero =>
                intro x u z v h
                cases h
                exact Nat.le_refl _
              | succ f ih =>
                intro x u z v h
                unfold rf at h
                split at h
                · split at h
                  · cases h
                  · have := ih _ _ _ _ h
                    omega
                · cases h
                  exact Nat.le_refl _
            exact mono _ _ _ _ _ h
          exact ⟨by omega, fun w => absurd w (by omega), fun _ => rfl⟩
        · rw [if_neg (by rw [List.length_take]; omega)]
          have hg : (ws.take j).getD u 0 = ws.getD u 0 := by
            rw [List.getD_eq_getElem?_getD, List.getD_eq_getElem?_getD, List.getElem?_take, if_pos (by omega)]
          rw [hg]
          obtain ⟨a, b, d⟩ := rf_take hj f _ (u + 1) z v (by omega) h
          exact ⟨by omega, b, d⟩
    · rw [if_neg c] at h ⊢
      cases h
      exact ⟨Nat.le_refl _, fun _ => rfl, fun y => absurd y (by omega)⟩
theorem upw_take {row ws : List Int} {j : Nat} (hj : j ≤ ws.length) : ∀ (c : Nat) (y : Int) (u : Nat) (acc m : List Nat) (z : Int) (v : Nat), u ≤ j → upw row ws c y u acc = some (m, z, v) → j < v → upw row (ws.take j) c y u acc = none
  | 0, y, u, acc, m, z, v, hu, h, hv => by
    cases h
    omega
  | c + 1, y, u, acc, m, z, v, hu, h, hv => by
    unfold upw at h ⊢
    cases hr : rf ws 3 (ppR row y) u with
    | none =>
      rw [hr] at h
      cases h
    | some q =>
      obtain ⟨x, w⟩ := q
      rw [hr] at h
      obtain ⟨a, b, d⟩ := rf_take hj 3 _ u x w hu hr
      by_cases e : w ≤ j
      · rw [b e]
        exact upw_take hj c x w _ m z v e h hv
      · rw [d (by omega)]
/-- the state is enough to be filled up by two words -/
theorem pop_pos {n : Nat} {row : List Int} {y : Int} (h : Tot n row) (hy : 65536 ≤ y) : 1 ≤ ppR row y ∧ ppS row y < n ∧ 1 ≤ row.getD (ppS row y) 0 := by
  obtain ⟨d, hd1, hd, hq, hle⟩ := h.fact
  have ht := h.ok.2.2
  have a0 := Int.emod_nonneg y (show row.sum ≠ 0 by omega)
  have a1 := Int.emod_lt_of_pos y (show 0 < row.sum by omega)
  obtain ⟨g1, g2, g3⟩ := symAt_spec row (y % row.sum) h.ok.2.1 a0 a1
  have gS : ppS row y = symAt row (y % row.sum) := rfl
  rw [← gS] at g1 g2 g3
  rw [h.ok.1] at g1
  obtain ⟨h1, h2, h3⟩ := take_le h.ok g1
  have hw : 1 ≤ row.getD (ppS row y) 0 := by omega
  have hdv : 1 ≤ y / row.sum := (Int.le_ediv_iff_mul_le (by omega)).mpr (by omega)
  have hm := Int.mul_le_mul hw hdv (by decide) (by omega)
  exact ⟨by unfold ppR; omega, g1, hw⟩
end M13
namespace M13
theorem rf_ge {ws : List Int} (h0 : ∀ w ∈ ws, 0 ≤ w) : ∀ (f : Nat) (x : Int) (u : Nat) (z : Int) (v : Nat), 65536 ≤ x * 256 ^ (f - 1) → 1 ≤ f → 0 ≤ x → rf ws f x u = some (z, v) → 65536 ≤ z
  | 0, _, _, _, _, _, h, _, _ => absurd h (by decide)
  | f + 1, x, u, z, v, hx, _, hx0, h => by
    unfold rf at h
    split at h
    · split at h
      · cases h
      · rename_i h1 h2
        have hw : 0 ≤ ws.getD u 0 := by
          rw [List.getD_eq_getElem?_getD, List.getElem?_eq_getElem (by omega)]
          exact h0 _ (List.getElem_mem (by omega))
        cases f with
        | zero =>
          simp at hx
          omega
        | succ f =>
          refine rf_ge h0 (f + 1) _ (u + 1) z v ?_ (by omega) (by omega) h
          have e1 : f + 1 + 1 - 1 = f + 1 := rfl
          have e2 : f + 1 - 1 = f := rfl
          rw [e1, Int.pow_succ] at hx
          rw [e2]
          have hp : (0 : Int) ≤ 256 ^ f := Int.le_of_lt (Int.pow_pos (by decide))
          have := Int.mul_nonneg hw hp
          have e3 : (x * 256 + ws.getD u 0) * 256 ^ f = x * (256 ^ f * 256) + ws.getD u 0 * 256 ^ f := by grind
          rw [e3]
          omega
    · cases h
      omega
theorem rf_three {ws : List Int} (h0 : ∀ w ∈ ws, 0 ≤ w) {x : Int} {u : Nat} {z : Int} {v : Nat} (hx : 1 ≤ x) (h : rf ws 3 x u = some (z, v)) : 65536 ≤ z := rf_ge h0 3 x u z v (by
  show (65536 : Int) ≤ x * 256 ^ 2
  have : (256 : Int) ^ 2 = 65536 := by decide
  rw [this]
  omega) (by decide) (by omega) h
end M13
set_option Elab.async false
set_option linter.all false
set_option maxRecDepth 100000
set_option maxHeartbeats 4000000
namespace K13
open PySem PySem.Spec PyProof.Rows L2 StX GX KC Evl M08 M09 M10 M01 M12 M13 KX KQ
abbrev natV (msg : List Nat) : List V := msg.map fun (s : Nat) => V.int (s : Int)
section
variable {P : Program} {w : World} {K : PySem.W.Frag} {mg : Str → Option Value} {base : Heap} {Cl : Nat → Addr} {σ : L2.St} {H H' : Hp} {p d R r : Addr} {rs : List Addr} {m : Md} {n : Nat} {F : Addr → Prop} {ta tb te : TE} {D : Ends} {tz : TS}
def spPush : Sp := fun vs H Q _ => ∃ lo wt t x : Int, vs = [.int lo, .int wt, .int t, .int x] ∧ 1 ≤ wt ∧ wt ≤ 100000 ∧ 0 ≤ t ∧ t ≤ 100000 ∧ RetV (.int (x / wt * t + lo + x % wt)) H Q
theorem ok_push {f : Addr} {fd : FuncData} {k : Nat} (Fn : Fun K "push" "push" s_push f fd) (B : Bs mg) : FnOk P w K mg base CX0 (k + 1) f fd ["low", "weight", "total", "number"] spPush := by
  refine Fn.ok sc_push (fun vs H Q E h => ?_) (fun cdv A outer s H vs Q E hr h => ?_)
  · obtain ⟨lo, wt, t, x, rfl, _⟩ := h
    rfl
  · obtain ⟨lo, wt, t, x, rfl, h1, h2, h3, h4, q⟩ := h
    refine ⟨_, (pss_one (ps_ret (pe_op op_add (pe_op op_add (pe_op op_mul (pe_op op_fdiv (pv 3) (pv 1)) (pv 2)) (pv 0)) (pe_op op_mod (pv 3) (pv 1))))), ?_⟩
    exact s_ret (ev_add (ev_add (ev_op (ev_op (ev_var (v := .int x) rfl) (ev_var (v := .int wt) rfl) (rv_div (by omega) (by omega))) (ev_var (v := .int t) rfl) (rv_I (.inr ⟨by omega, by omega⟩))) (ev_var rfl)) (ev_op (ev_var (v := .int x) rfl) (ev_var (v := .int wt) rfl) (rv_mod (by omega)))) q
end
end K13
set_option Elab.async false
set_option linter.all false
set_option maxRecDepth 100000
set_option maxHeartbeats 4000000
namespace K13
open PySem PySem.Spec PyProof.Rows L2 StX GX KC Evl M08 M09 M10 M01 M12 M13 KX KQ
structure GW (mg : Str → Option Value) (t1 t2 t3 : Tok) : Prop where
  g_WORD_BITS : mg "WORD_BITS" = some (.int 8 t1)
  g_LEAST_STATE : mg "LEAST_STATE" = some (.int 65536 t2)
  g_STATE_END : mg "STATE_END" = some (.int 16777216 t3)
/-- low, weight, total of each symbol of a message -/
def ShAt (H : Hp) (xs : List V) (row : List Int) (msg : List Nat) : Prop := xs.length = msg.length ∧ ∀ (i s : Nat), msg[i]? = some s → ∃ t, xs[i]? = some (.ref t) ∧ H t = some (.tup [.int (row.take s).sum, .int (row.getD s 0), .int row.sum])
theorem learn0 {m : Md} (h : m.kind = 0) (s : Nat) : m.learn s = m := by
  unfold Md.learn
  rw [if_pos h]
theorem fresh0 {m : Md} (h : m.kind = 0) : m.fresh = m := by
  unfold Md.fresh
  rw [if_pos h]
theorem take_snoc {α : Type} {xs : List α} {i : Nat} {x : α} (h : xs[i]? = some x) : xs.take (i + 1) = xs.take i ++ [x] := by
  obtain ⟨h1, e⟩ := List.getElem?_eq_some_iff.mp h
  rw [← e, List.take_append_getElem h1]
section
variable {P : Program} {w : World} {K : PySem.W.Frag} {mg : Str → Option Value} {base : Heap} {Cl : Nat → Addr} {σ : L2.St} {H H' : Hp} {p d R r : Addr} {rs : List Addr} {m : Md} {n : Nat} {F : Addr → Prop} {ta tb te : TE} {D : Ends} {tz : TS} {CT : Addr} {t1 t2 t3 : Tok}
theorem ShAt.ext {xs : List V} {row : List Int} {msg : List Nat} (e : Ex H H') (h : ShAt H xs row msg) : ShAt H' xs row msg := ⟨h.1, fun i s hs => by
  obtain ⟨t, h1, h2⟩ := h.2 i s hs
  exact ⟨t, h1, e _ _ h2⟩⟩
def spPop (Cl : Nat → Addr) : Sp := fun vs H Q _ => ∃ (p : Addr) (m : Md) (F : Addr → Prop) (n : Nat) (y : Int), vs = [.ref p, .int y] ∧ MAt Cl H p m F ∧ Ok n m ∧ m.row.sum ≤ 65536 ∧ 0 ≤ y ∧ RetT [.int (ppS m.row y : Int), .int (ppR m.row y)] H Q
theorem ok_pop {f : Addr} {fd : FuncData} {k : Nat} (Fn : Fun K "pop" "pop" s_pop f fd) (B : Bs mg) (D_total : DTotal P w K mg base Cl) (D_weight : DWeight P w K mg base Cl) (D_low : DLow P w K mg base Cl) (D_symbol_at : DSym P w K mg base Cl) :
    FnOk P w K mg base CX0 (k + 4) f fd ["model", "number"] (spPop Cl) := by
  refine Fn.ok sc_pop (fun vs H Q E h => ?_) (fun cdv A outer s H vs Q E hr h => ?_)
  · obtain ⟨p, m, F, n, y, rfl, _⟩ := h
    rfl
  · obtain ⟨p, m, F, n, y, rfl, hm, hok, hb, hy, q⟩ := h
    refine ⟨_, (pss_cons (ps_set (i := 2) sc_pop.nd rfl (Or.inl rfl) (pe_methD0 (pv 0) D_total (hr.mono (by omega))))
      (pss_cons (ps_set (i := 3) sc_pop.nd rfl (Or.inl rfl) (pe_op op_mod (pv 1) (pv 2)))
      (pss_cons (ps_set (i := 4) sc_pop.nd rfl (Or.inl rfl) (pe_methD (pv 0) D_symbol_at (hr.mono (by omega)) (pa_cons (pv 3) pa_nil)))
      (pss_one (ps_ret (pe_tup (pa_cons (pv 4) (pa_cons (pe_op op_sub (pe_op op_add (pe_op op_mul (pe_methD (pv 0) D_weight (hr.mono (by omega)) (pa_cons (pv 4) pa_nil)) (pe_op op_fdiv (pv 1) (pv 2))) (pv 3)) (pe_methD (pv 0) D_low (hr.mono (by omega)) (pa_cons (pv 4) pa_nil))) pa_nil)))))))), ?_⟩
    have hro := hok.row
    have hpos := hro.2.2
    have a0 := Int.emod_nonneg y (show m.row.sum ≠ 0 by omega)
    have a1 := Int.emod_lt_of_pos y (show 0 < m.row.sum by omega)
    obtain ⟨s1, s2, s3, s4⟩ := push_pop hro hy
    obtain ⟨k1, k2, k3⟩ := take_le hro s1
    refine q_asg (ev_m hm hok (ev_var rfl) ea_nil (sp_total hm hok)) fun H1 e1 => ?_
    have hm1 := hm.ext e1
    refine q_asg (v := .int (y % m.row.sum)) (ev_op (ev_var (v := .int y) rfl) (ev_var (v := .int m.row.sum) rfl) (rv_mod (by omega))) fun H2 e2 => ?_
    have hm2 := hm1.ext e2
    refine q_asg (v := .int (ppS m.row y : Int)) (ev_m hm2 hok (ev_var rfl) (ea1 (ev_var rfl)) (sp_sym hm2 hok a0 a1)) fun H3 e3 => ?_
    have hm3 := hm2.ext e3
    have e03 := (e1.trans e2).trans e3
    exact s_ret2 (ev_var rfl) (ev_sub (ev_add (ev_op (ev_m hm3 hok (ev_var rfl) (ea1 (ev_var rfl)) (sp_weight hm3 hok s1)) (ev_op (ev_var (v := .int y) rfl) (ev_var (v := .int m.row.sum) rfl) (rv_div (by omega) (by omega))) (rv_mul (by omega))) (ev_var rfl)) (ev_m hm3 hok (ev_var rfl) (ea1 (ev_var rfl)) (sp_low hm3 hok))) (RetT.mono e03 q)
def spShares (K : PySem.W.Frag) (Cl : Nat → Addr) : Sp := fun vs H Q _ => ∃ (p l : Addr) (m : Md) (F : Addr → Prop) (n : Nat) (msg : List Nat), vs = [.ref p, .ref l] ∧ MAt Cl H p m F ∧ Ok n m ∧ SqL K H l (natV msg) ∧ (∀ s ∈ msg, s < n) ∧ msg.length ≤ 10000 ∧
  ∀ q xs H', H q = none → Ex H H' → H' q = some (.lst xs) → ShAt H' xs m.row msg → Q (.ref q) H'
theorem ok_shares {f : Addr} {fd : FuncData} {k : Nat} (Fn : Fun K "shares" "shares" s_shares f fd) (B : Bs mg) (D_total : DTotal P w K mg base Cl) (D_weight : DWeight P w K mg base Cl) (D_low : DLow P w K mg base Cl) (D_fresh : DFresh P w K mg base Cl) (D_learn : DLearn P w K mg base Cl) :
    FnOk P w K mg base CX0 (k + 6) f fd ["model", "message"] (spShares K Cl) := by
  refine Fn.ok sc_shares (fun vs H Q E h => ?_) (fun cdv A outer s H vs Q E hr h => ?_)
  · obtain ⟨p, l, m, F, n, msg, rfl, _⟩ := h
    rfl
  · obtain ⟨p, l, m, F, n, msg, rfl, hm, hok, hs, hmn, hml, q⟩ := h
    refine ⟨_, (pss_cons (ps_set (i := 2) sc_shares.nd rfl (Or.inl rfl) (pe_methD0 (pv 0) D_fresh (hr.mono (by omega))))
      (pss_cons (ps_set (i := 3) sc_shares.nd rfl (Or.inl rfl) (pe_lst pa_nil))
      (pss_cons (ps_for PassesOwn.never rfl (pi_list (pv 1)) (pg_name (i := 4) sc_shares.nd rfl (Or.inl rfl)) (pss_cons (ps_expr (pe_bm PySem.F.plainAttrs_list PySem.F.slot_list_append PySem.F.type_list_append mt_append (pv 3) (pa_cons (pe_tup (pa_cons (pe_methD (pv 2) D_low (hr.mono (by omega)) (pa_cons (pv 4) pa_nil)) (pa_cons (pe_methD (pv 2) D_weight (hr.mono (by omega)) (pa_cons (pv 4) pa_nil)) (pa_cons (pe_methD0 (pv 2) D_total (hr.mono (by omega))) pa_nil)))) pa_nil)))
      (pss_one (ps_expr (pe_methD (pv 2) D_learn (hr.mono (by omega)) (pa_cons (pv 4) pa_nil))))))
      (pss_one (ps_ret (pv 3)))))), ?_⟩
    have hk0 := hm.kd
    refine q_asgP (ep_fresh2 hm hok (ev_var rfl)) fun v H1 e1 ⟨p', F', ev, hm1, hf1⟩ => ?_
    subst ev
    rw [fresh0 hk0] at hm1
    refine q_asgL (xs := []) (el_lst ea_nil (by decide)) fun pf H2 npf e2 h2 => ?_
    have npf0 : H pf = none := fresh_back e1 npf
    refine q_forLn (ev_var rfl) (ex_l (e1.trans e2) hs) (fun i σ' H' => ∃ (F2 : Addr → Prop) (x : Option V) (xs : List V), σ' = [some (.ref p), some (.ref l), some (.ref p'), some (.ref pf), x] ∧ Ex H H' ∧ MAt Cl H' p' m F2 ∧ (∀ b, F2 b → H b = none) ∧ ¬ F2 pf ∧ H' pf = some (.lst xs) ∧ xs.length = i ∧
        ∀ (j s : Nat), j < i → msg[j]? = some s → ∃ t, xs[j]? = some (.ref t) ∧ ¬ F2 t ∧ H' t = some (.tup [.int (m.row.take s).sum, .int (m.row.getD s 0), .int m.row.sum]))
      (fun H3 e3 => ⟨F', none, [], rfl, (e1.trans e2).trans e3, hm1.ext (e2.trans e3), hf1, fun z => hm1.foot pf z npf, e3 _ _ h2, rfl, fun j s hj => absurd hj (Nat.not_lt_zero j)⟩) (fun i σ' H' _ ⟨_, _, _, _, e, _⟩ => ex_l e hs) ?_ ?_
    · rintro i v σ' H' hv ⟨F2, x, xs, rfl, ex, hm2, hf2, nF2, hpf, hxl, hsh⟩
      have hil : i < msg.length := by
        have := (List.getElem?_eq_some_iff.mp hv).1
        rwa [List.length_map] at this
      obtain ⟨sy, hsy⟩ : ∃ sy, msg[i]? = some sy := ⟨_, List.getElem?_eq_getElem hil⟩
      rw [List.getElem?_map, hsy] at hv
      cases hv
      have hsn := hmn sy (List.mem_of_getElem? hsy)
      refine q_appU hpf (ev_var rfl) (eu_tup (ea3 (ev_m hm2 hok (ev_var rfl) (ea1 (ev_var rfl)) (sp_low hm2 hok)) (ev_m hm2 hok (ev_var rfl) (ea1 (ev_var rfl)) (sp_weight hm2 hok hsn)) (ev_m hm2 hok (ev_var rfl) ea_nil (sp_total hm2 hok))) (by show 3 ≤ 100000; decide)) (by omega) fun pt H3 npt e3 h3 => ?_
      have npf3 : pt ≠ pf := fun z => by rw [z, hpf] at npt; cases npt
      have hm3 : MAt Cl (upd H3 pf (.lst (xs ++ [.ref pt]))) p' m F2 := (hm2.ext e3).keep fun b o fb hb => by
        rw [upd_ne (fun z => nF2 (by rw [← z]; exact fb))]
        exact hb
      have hpt3 : upd H3 pf (.lst (xs ++ [.ref pt])) pt = some (.tup [.int (m.row.take sy).sum, .int (m.row.getD sy 0), .int m.row.sum]) := by rw [upd_ne npf3]; exact h3
      have nFt : ¬ F2 pt := fun z => hm2.foot pt z npt
      refine s_learn hm3 hok (ev_var rfl) (ea1 (ev_var rfl)) hsn fun H4 F4 hm4 kp4 fr4 => ?_
      rw [learn0 hk0] at hm4
      have avoid : ∀ {b : Addr} {o : HO}, upd H3 pf (.lst (xs ++ [.ref pt])) b = some o → ¬ F2 b → ¬ F4 b := fun {b o} hb hf z => by
        rcases fr4 b z with y | y
        · exact hf y
        · rw [hb] at y
          cases y
      refine ⟨F4, _, xs ++ [.ref pt], rfl, (fun b o hb => kp4 b o ?_ fun z => (by rw [hf2 b z] at hb; cases hb)), hm4, fun b hb => ?_, avoid upd_same nF2, kp4 _ _ upd_same nF2, by simp [hxl], ?_⟩
      · rw [upd_ne (fun z => by rw [z, npf0] at hb; cases hb)]
        exact e3 _ _ (ex _ _ hb)
      · rcases fr4 b hb with z | z
        · exact hf2 b z
        · by_cases y : b = pf
          · rw [y]
            exact npf0
          · rw [upd_ne y] at z
            exact fresh_back (ex.trans e3) z
      · intro j s hj hjs
        by_cases z : j < i
        · obtain ⟨t, t1, t2, t3⟩ := hsh j s z hjs
          have nt : t ≠ pf := fun y => by rw [y, hpf] at t3; cases t3
          have ht : upd H3 pf (.lst (xs ++ [.ref pt])) t = some (.tup [.int (m.row.take s).sum, .int (m.row.getD s 0), .int m.row.sum]) := by
            rw [upd_ne nt]
            exact e3 _ _ t3
          exact ⟨t, by rw [List.getElem?_append_left (by omega)]; exact t1, avoid ht t2, kp4 _ _ ht t2⟩
        · have hji : j = i := by omega
          subst hji
          rw [hsy] at hjs
          cases hjs
          exact ⟨pt, by rw [List.getElem?_append_right (by omega), hxl, Nat.sub_self]; rfl, avoid hpt3 nFt, kp4 _ _ hpt3 nFt⟩
    · rintro σ' H' ⟨F2, x, xs, rfl, ex, hm2, hf2, nF2, hpf, hxl, hsh⟩
      rw [List.length_map] at hxl hsh
      refine s_ret (ev_var rfl) fun H3 e3 => q pf xs H3 npf0 (ex.trans e3) (e3 _ _ hpf) ⟨hxl, fun i s hs => ?_⟩
      obtain ⟨t, t1, _, t3⟩ := hsh i s (List.getElem?_eq_some_iff.mp hs).1 hs
      exact ⟨t, t1, e3 _ _ t3⟩
/-- the last symbols -/
theorem pkw_drop {row : List Int} {msg : List Nat} {i s : Nat} (h : msg[i]? = some s) : pkw row (msg.drop i) = (psh row s (nrm (endOf row s) 4 (pkw row (msg.drop (i + 1))).1).2, (nrm (endOf row s) 4 (pkw row (msg.drop (i + 1))).1).1.reverse ++ (pkw row (msg.drop (i + 1))).2) := by
  obtain ⟨h1, e⟩ := List.getElem?_eq_some_iff.mp h
  have ed : msg.drop i = s :: msg.drop (i + 1) := by rw [← e]; exact List.drop_eq_getElem_cons h1
  rw [ed]
  rfl
theorem nrm_succ (e : Int) (f : Nat) (x : Int) : nrm e (f + 1) x = if e ≤ x then (x % 256 :: (nrm e f (x / 256)).1, (nrm e f (x / 256)).2) else ([], x) := rfl
theorem nrm_done {e x : Int} (h : ¬ e ≤ x) : ∀ f, nrm e f x = ([], x)
  | 0 => rfl
  | f + 1 => by rw [nrm_succ, if_neg h]
def OutP (st : Int) (ws : List Int) (H : Hp) (Q : VK) : Prop := ∀ b t H', H b = none → H t = none → Ex H H' → H' b = some (.lst (ws.map V.int)) → H' t = some (.tup [.int st, .ref b]) → Q (.ref t) H'
def spPackW (K : PySem.W.Frag) (Cl : Nat → Addr) : Sp := fun vs H Q _ => ∃ (p l : Addr) (m : Md) (F : Addr → Prop) (n : Nat) (msg : List Nat), vs = [.ref p, .ref l] ∧ MAt Cl H p m F ∧ Ok n m ∧ Tot n m.row ∧ SqL K H l (natV msg) ∧ (∀ s ∈ msg, s < n ∧ 1 ≤ m.row.getD s 0) ∧ msg.length ≤ 1000 ∧ OutP (pkw m.row msg).1 (pkw m.row msg).2 H Q
theorem ok_pack_words {f : Addr} {fd : FuncData} {k : Nat} (Fn : Fun K "pack_words" "pack_words" s_pack_words f fd) (B : Bs mg) (T : GW mg t1 t2 t3) (C_shares : Cal P w K mg base "shares" 6 ["model", "message"] (spShares K Cl)) (C_push : Cal P w K mg base "push" 1 ["low", "weight", "total", "number"] spPush) :
    FnOk P w K mg base CX0 (k + 7) f fd ["model", "message"] (spPackW K Cl) := by
  refine Fn.ok sc_pack_words (fun vs H Q E h => ?_) (fun cdv A outer s H vs Q E hr h => ?_)
  · obtain ⟨p, l, m, F, n, msg, rfl, _⟩ := h
    rfl
  · obtain ⟨p, l, m, F, n, msg, rfl, hm, hok, ht, hs, hmn, hml, q⟩ := h
    refine ⟨_, (pss_cons (ps_set (i := 2) sc_pack_words.nd rfl (Or.inl rfl) (pe_glob (v := .int 65536) (by rfl) T.g_LEAST_STATE ⟨_, rfl⟩))
      (pss_cons (ps_set (i := 3) sc_pack_words.nd rfl (Or.inl rfl) (pe_lst pa_nil))
      (pss_cons (ps_for PassesOwn.never rfl (pi_reversed (by rfl) B.reversed (pa_cons (pe_callC C_shares (hr.mono (by omega)) (by rfl) (pa_cons (pv 0) (pa_cons (pv 1) pa_nil))) pa_nil)) (pg_tup rfl (pgs_cons (pg_name (i := 4) sc_pack_words.nd rfl (Or.inl rfl)) (pgs_cons (pg_name (i := 5) sc_pack_words.nd rfl (Or.inl rfl)) (pgs_cons (pg_name (i := 6) sc_pack_words.nd rfl (Or.inl rfl)) pgs_nil)))) (pss_cons (ps_set (i := 7) sc_pack_words.nd rfl (Or.inl rfl) (pe_callB (call_max2 rfl) (by rfl) B.max (by decide +kernel) (pa_cons pe_int (pa_cons (pe_op op_mul (pe_op op_fdiv (pe_glob (v := .int 16777216) (by rfl) T.g_STATE_END ⟨_, rfl⟩) (pv 6)) (pv 5)) pa_nil))))
      (pss_cons (ps_while PassesOwn.never (pt_cmpR op_ge (pv 2) (pv 7) (nomark _)) (pss_cons (ps_expr (pe_bm PySem.F.plainAttrs_list PySem.F.slot_list_append PySem.F.type_list_append mt_append (pv 3) (pa_cons (pe_op op_and (pv 2) (pe_op op_sub (pe_op op_shl pe_int (pe_glob (v := .int 8) (by rfl) T.g_WORD_BITS ⟨_, rfl⟩)) pe_int)) pa_nil)))
      (pss_one (ps_set (i := 2) sc_pack_words.nd rfl (Or.inl rfl) (pe_op op_shr (pv 2) (pe_glob (v := .int 8) (by rfl) T.g_WORD_BITS ⟨_, rfl⟩))))))
      (pss_one (ps_set (i := 2) sc_pack_words.nd rfl (Or.inl rfl) (pe_callC C_push (hr.mono (by omega)) (by rfl) (pa_cons (pv 4) (pa_cons (pv 5) (pa_cons (pv 6) (pa_cons (pv 2) pa_nil))))))))))
      (pss_one (ps_ret (pe_tup (pa_cons (pv 2) (pa_cons (pe_revL (pv 3)) pa_nil)))))))), ?_⟩
    obtain ⟨d, hd1, hd, hq, hle⟩ := ht.fact
    have hro := hok.row
    have hpos := hro.2.2
    refine q_asg (v := .int 65536) ev_c fun H1 e1 => ?_
    refine q_asgL (xs := []) (el_lst ea_nil (by decide)) fun pf H2 npf e2 h2 => ?_
    have e12 := e1.trans e2
    have npf0 : H pf = none := fresh_back e1 npf
    refine q_forRevP (C := fun pl xs H3 => ShAt H3 xs m.row msg ∧ Ex H2 H3 ∧ pl ≠ pf) (KQ.ep_call (vs := [.ref p, .ref l]) (ea2 (ev_var rfl) (ev_var rfl)) fun H3 e3 Q q => ⟨p, l, m, F, n, msg, rfl, hm.ext (e12.trans e3), hok, ex_l (e12.trans e3) hs, (fun s hs => (hmn s hs).1), by omega, fun pl xs H4 npl e4 h4 hsh => q _ H4 e4 ⟨pl, xs, rfl, h4, hsh, e3.trans e4, fun z => by rw [z, e3 _ _ h2] at npl; cases npl⟩⟩)
      (fun pl xs i σ' H' => ∃ a b c y, σ' = [some (.ref p), some (.ref l), some (.int (pkw m.row (msg.drop (msg.length - i))).1), some (.ref pf), a, b, c, y] ∧ Ex H H' ∧ pl ≠ pf ∧ H' pl = some (.lst xs) ∧ ShAt H' xs m.row msg ∧ H' pf = some (.lst ((pkw m.row (msg.drop (msg.length - i))).2.reverse.map V.int)))
      (fun pl xs H3 e3 h3 ⟨hsh, eh, hne⟩ => ⟨none, none, none, none, by rw [Nat.sub_zero, List.drop_of_length_le (Nat.le_refl _)]; rfl, e12.trans e3, hne, h3, hsh, by rw [Nat.sub_zero, List.drop_of_length_le (Nat.le_refl _)]; exact e3 _ _ h2⟩) (fun pl xs i σ' H' hi ⟨_, _, _, _, _, _, _, h, _⟩ => sq_of h) ?_ ?_
    · rintro pl xs i v σ' H' hv hi ⟨a, b, c, y, rfl, ex, hne, hpl, hsh, hpf⟩
      have hxl := hsh.1
      obtain ⟨sy, hsy⟩ : ∃ sy, msg[msg.length - 1 - i]? = some sy := ⟨_, List.getElem?_eq_getElem (by omega)⟩
      obtain ⟨t, ht1, ht2⟩ := hsh.2 _ sy hsy
      rw [hxl] at hv
      rw [ht1] at hv
      cases hv
      obtain ⟨hsn, hw1⟩ := hmn sy (List.mem_of_getElem? hsy)
      obtain ⟨k1, k2, k3⟩ := take_le hro hsn
      have hpk := pkw_drop (row := m.row) hsy
      rw [show msg.length - 1 - i + 1 = msg.length - i by omega] at hpk
      have hbd := pkw_bd ht (msg.drop (msg.length - i)) fun s hs => hmn s (List.mem_of_mem_drop hs)
      have hlen : (msg.drop (msg.length - i)).length ≤ 1000 := by rw [List.length_drop]; omega
      refine g_three (st_of ht2) ?_
      rw [show msg.length - (i + 1) = msg.length - 1 - i by omega, hpk]
      generalize pkw m.row (msg.drop (msg.length - i)) = r0 at *
      obtain ⟨g1, g2, g3, g4⟩ := push_bd ht hsn hw1 hbd.1 hbd.2.1
      have he1 : 1 ≤ endOf m.row sy := by
        unfold endOf
        rw [hq]
        have := Int.mul_pos (show 0 < 256 * d by omega) (show 0 < m.row.getD sy 0 by omega)
        omega
      refine q_asg (v := .int (endOf m.row sy)) (ev_is (ev_max2 ev_c (ev_op (ev_op (ev_c (v := .int 16777216)) (ev_var (v := .int m.row.sum) rfl) (rv_div (by omega) (by omega))) (ev_var (v := .int (m.row.getD sy 0)) rfl) (rv_I (.inr ⟨by omega, by omega⟩)))) ?_) fun H3 e3 => ?_
      · show V.int (if endOf m.row sy > 1 then endOf m.row sy else 1) = _
        by_cases z : endOf m.row sy > 1
        · rw [if_pos z]
        · rw [if_neg z]
          congr 1
          omega
      generalize endOf m.row sy = en at *
      have ht3 := e3 _ _ ht2
      have e03 := ex.trans e3
      -- words out of the state
      have h256 : (256 : Int) ^ 4 = 4294967296 := by decide
      refine q_while (fun c2 σ2 H2 => ∃ (x : Int) (em : List Int) (f : Nat), c2 = f ∧ nrm en 4 r0.1 = (em ++ (nrm en f x).1, (nrm en f x).2) ∧ (en ≤ x → x < 256 ^ f) ∧ 0 ≤ x ∧ σ2 = [some (.ref p), some (.ref l), some (.int x), some (.ref pf), some (.int (m.row.take sy).sum), some (.int (m.row.getD sy 0)), some (.int m.row.sum), some (.int en)] ∧ (∀ b o, b ≠ pf → H3 b = some o → H2 b = some o) ∧ Ex H H2 ∧ H2 pf = some (.lst ((r0.2.reverse ++ em).map V.int)) ∧ em.length + f = 4)
        4 ⟨r0.1, [], 4, rfl, rfl, (fun _ => by omega), by omega, rfl, (fun b o _ h => h), e03, by rw [List.append_nil]; exact e3 _ _ hpf, rfl⟩ ?_
      rintro c2 σ2 H2' ⟨x, em, f, rfl, hn, hx, hx0, rfl, hk, ex2, hpf2, hel⟩
      refine ⟨decide (en ≤ x), et_is (et_test (ev_op (ev_var (v := .int x) rfl) (ev_var (v := .int en) rfl) rv_I0)) (decide_eq_decide.mpr (by omega)), fun hb H4 e4 => ?_, fun hb H4 e4 => ?_⟩
      · have hle2 := of_decide_eq_true hb
        have hxf := hx hle2
        obtain ⟨g, hgg⟩ : ∃ g, c2 = g + 1 := by
          cases c2 with
          | zero =>
            rw [Int.pow_zero] at hxf
            omega
          | succ g => exact ⟨g, rfl⟩
        subst hgg
        rw [nrm_succ en g x, if_pos hle2] at hn
        refine ⟨fun σ3 H5 => ∃ (x : Int) (em : List Int) (f : Nat), g = f ∧ nrm en 4 r0.1 = (em ++ (nrm en f x).1, (nrm en f x).2) ∧ (en ≤ x → x < 256 ^ f) ∧ 0 ≤ x ∧ σ3 = [some (.ref p), some (.ref l), some (.int x), some (.ref pf), some (.int (m.row.take sy).sum), some (.int (m.row.getD sy 0)), some (.int m.row.sum), some (.int en)] ∧ (∀ b o, b ≠ pf → H3 b = some o → H5 b = some o) ∧ Ex H H5 ∧ H5 pf = some (.lst ((r0.2.reverse ++ em).map V.int)) ∧ em.length + f = 4, fun σ3 H5 h => ⟨g, by omega, h⟩, ?_⟩
        have hand : Builtin.bitAnd x 255 = x % 256 := bitAnd_m8 x
        refine q_app (e4 _ _ hpf2) (ev_var rfl) (v := .int (x % 256)) (ev_is (ev_op (ev_var (v := .int x) rfl) (ev_sub (ev_shl1 (m := 8) ev_c rfl (by decide)) ev_c) rv_I0) (by
          show V.int (Builtin.bitAnd x (2 ^ 8 - 1)) = _
          rw [show (2 : Int) ^ 8 - 1 = 255 by decide, hand])) (by rw [List.length_map, List.length_append, List.length_reverse]; omega) fun H5 e5 => ?_
        refine s_asg (v := .int (x / 256)) (ev_is (ev_op (ev_var (v := .int x) rfl) (ev_c (v := .int 8)) (rv_shr (by decide))) (by
          show V.int (x / 2 ^ (8 : Int).toNat) = _
          rw [show (2 : Int) ^ (8 : Int).toNat = 256 by decide])) fun H6 e6 => ⟨x / 256, em ++ [x % 256], g, rfl, by rw [hn]; simp, fun _ => by rw [Int.pow_succ] at hxf; omega, by omega, rfl, (fun b o hb2 h => e6 _ _ (by rw [upd_ne hb2]; exact e5 _ _ (e4 _ _ (hk b o hb2 h)))), (Ex.mut ((ex2.trans e4).trans e5) npf0).trans e6, ?_, by simp; omega⟩
        rw [e6 _ _ upd_same, ← List.append_assoc, List.map_append (l₂ := [x % 256])]
        rfl
      · have hgt := of_decide_eq_false hb
        rw [nrm_done hgt c2] at hn
        simp only [List.append_nil] at hn
        rw [hn] at g1 ⊢
        have e04 := ex2.trans e4
        refine s_asg (v := .int (psh m.row sy x)) (ev_call (vs := [.int (m.row.take sy).sum, .int (m.row.getD sy 0), .int m.row.sum, .int x]) (ea_cons (ev_var rfl) (ea3 (ev_var rfl) (ev_var rfl) (ev_var rfl))) fun H5 e5 Q q E => ⟨_, _, _, _, rfl, hw1, by omega, by omega, by omega, q⟩) fun H5 e5 => ⟨_, _, _, _, rfl, e04.trans e5, hne, (e4.trans e5) _ _ (hk _ _ hne (e3 _ _ hpl)), ⟨hxl, fun j s2 hj => ?_⟩, ?_⟩
        · obtain ⟨t5, a5, b5⟩ := hsh.2 j s2 hj
          exact ⟨t5, a5, (e4.trans e5) _ _ (hk _ _ (fun z => by rw [z, hpf] at b5; cases b5) (e3 _ _ b5))⟩
        · rw [(e4.trans e5) _ _ hpf2, List.reverse_append, List.reverse_reverse]
    · rintro pl xs σ' H' ⟨a, b, c, y, rfl, ex, hne, hpl, hsh, hpf⟩
      rw [hsh.1, Nat.sub_self] at hpf ⊢
      rw [List.drop_zero] at hpf ⊢
      refine s_retTL (xs := (pkw m.row msg).2.map V.int) (ev_var rfl) (fun H1 e1 => ?_) fun b t H2 nb nt e2 hb ht => q b t H2 (fresh_back ex nb) (fresh_back ex nt) (ex.trans e2) hb ht
      have h := el_rev (K := K) (σ := [some (.ref p), some (.ref l), some (.int (pkw m.row msg).1), some (.ref pf), a, b, c, y]) (H := H1) (ta := tVar 3) (ev_var rfl) (sq_of (e1 _ _ hpf))
      rwa [← List.map_reverse, List.reverse_reverse] at h
end
end K13
set_option Elab.async false
set_option linter.all false
set_option maxRecDepth 100000
set_option maxHeartbeats 4000000
namespace K13
open PySem PySem.Spec PyProof.Rows L2 StX GX KC Evl M08 M09 M10 M01 M12 M13 KX KQ
theorem rf_succ (ws : List Int) (f : Nat) (x : Int) (u : Nat) : rf ws (f + 1) x u = if x < 65536 then (if ws.length ≤ u then none else rf ws f (x * 256 + ws.getD u 0) (u + 1)) else some (x, u) := rfl
theorem upw_succ (row ws : List Int) (c : Nat) (y : Int) (u : Nat) (acc : List Nat) : upw row ws (c + 1) y u acc = match rf ws 3 (ppR row y) u with
    | none => none
    | some (x, v) => upw row ws c x v (acc ++ [ppS row y]) := rfl
section
variable {P : Program} {w : World} {K : PySem.W.Frag} {mg : Str → Option Value} {base : Heap} {Cl : Nat → Addr} {σ : L2.St} {H H' : Hp} {p d R r : Addr} {rs : List Addr} {m : Md} {n : Nat} {F : Addr → Prop} {ta tb te : TE} {D : Ends} {tz : TS} {CT : Addr} {t1 t2 t3 : Tok}
theorem ok_init {f : Addr} {fd : FuncData} {k : Nat} (F : Fun K "__init__" "KraftroomError.__init__" s_KraftroomError_init f fd) (hV : mg "ValueError" = none) (vV : PySem.W.findCls K (.type "ValueError") (.type "type") "__init__" = some (.val (.builtin "ValueError.__init__"))) : FnOk P w K mg base CX0 (k + 1) f fd ["self", "place"] (spInit K) := by
  refine F.ok sc_KraftroomError_init (fun vs H Q E h => ?_) (fun cdv A outer s H vs Q E hr h => ?_)
  · obtain ⟨a, C, i, nm, rfl, _⟩ := h
    rfl
  · obtain ⟨a, C, i, nm, rfl, ha, ⟨T, EC, N, n1, n2⟩, hi, q⟩ := h
    refine ⟨_, pss_cons (ps_ost (pv 0) (pv 1)) (pss_cons (ps_ost (pv 0) (pe_cnam (pe_ecls (pv 0)))) (pss_one (ps_expr (pe_veD (by rfl) hV vV (pa_cons (pv 0) (pa_cons (pe_joined (.cons pe_str (.cons (pe_fmt (pv 1)) .nil))) pa_nil)))))), ?_⟩
    refine ⟨_, rfl, _, rfl, a, C, rfl, T, n1, .inl ⟨ha, fun dx hdx hne => ?_⟩⟩
    have hda : ∀ {H' : Hp} {o : HO}, (upd (upd H dx o) a (exo a C (some dx))) dx = some o := fun {H' o} => by rw [upd_ne hne, upd_same]
    refine ⟨_, rfl, a, C, dx, _, rfl, EC, upd_same, hda (H' := H), C, nm, rfl, N, _, rfl, a, C, rfl, T, n2, .inr ⟨dx, _, upd_same, hda (H' := H), by show 1 ≤ 900; decide, ?_⟩⟩
    refine ⟨_, rfl, _, rfl, by decide, _, rfl, .inr ⟨i, rfl, log_bd hi, _, rfl, ?_, a, C, some dx, _, rfl, by show 1 ≤ 1000; decide, T, ?_, ?_⟩⟩
    · exact text_fits hi
    · rw [upd_ne (fun z => hne z.symm), upd_same]
    · refine q dx _ hdx hne ?_ upd_same fun b hb hb2 => ?_
      · rw [upd_ne (fun z => hne z.symm), upd_same]
      · rw [upd_ne hb2, upd_ne hb, upd_ne hb2]
def OutRf (CT : Addr) (len : Nat) (r : Option (Int × Nat)) (H : Hp) (Q : VK) (E : XK) : Prop := match r with
  | some (z, v) => RetT [.int z, .int (v : Int)] H Q
  | none => ErrOut CT "Truncated" (len : Int) H E
theorem OutRf.mono {len : Nat} {r : Option (Int × Nat)} {Q : VK} {E : XK} (e : Ex H H') (h : OutRf CT len r H Q E) : OutRf CT len r H' Q E := by
  match r, h with
  | some (z, v), h => exact RetT.mono e h
  | none, h => exact ErrOut.mono e h
def spRefill (K : PySem.W.Frag) (CT : Addr) : Sp := fun vs H Q E => ∃ (x : Int) (l : Addr) (ws : List Int) (u : Nat), vs = [.int x, .ref l, .int (u : Int)] ∧ 1 ≤ x ∧ SqL K H l (ws.map V.int) ∧ (∀ w ∈ ws, 0 ≤ w) ∧ ws.length ≤ 10000 ∧ OutRf CT ws.length (rf ws 3 x u) H Q E
theorem ok_refill {f fI : Addr} {fd fdI : FuncData} {k : Nat} (Fn : Fun K "refill" "refill" s_refill f fd) (B : Bs mg) (T : GW mg t1 t2 t3) (G_Truncated : ErrG P w K mg base "Truncated" CT fI fdI) : FnOk P w K mg base (L2.CX P w) (k + 3) f fd ["state", "words", "used"] (spRefill K CT) := by
  refine Fn.okX sc_refill (fun vs H Q E h => ?_) (fun cdv A outer s H vs Q E hr h => ?_)
  · obtain ⟨x, l, ws, u, rfl, _⟩ := h
    rfl
  · obtain ⟨x, l, ws, u, rfl, hx, hs, h0, hl, q⟩ := h
    refine ⟨_, (pss_cons (ps_set (i := 3) sc_refill.nd rfl (Or.inl rfl) (pv 0))
      (pss_cons (ps_set (i := 4) sc_refill.nd rfl (Or.inl rfl) (pv 2))
      (pss_cons (ps_while (passes_of rfl) (pt_cmpR op_lt (pv 3) (pe_glob (v := .int 65536) (by rfl) T.g_LEAST_STATE ⟨_, rfl⟩) (nomark _)) (pss_cons (ps_if (pt_cmpR op_ge (pv 4) (pe_callB call_len_seq (by rfl) B.len PySem.boot_len (pa_cons (pv 1) pa_nil)) (nomark _)) (pss_one (ps_raise rfl (takes_of rfl rfl rfl rfl) (pmk_oex G_Truncated.er.oc G_Truncated.iC G_Truncated.tI G_Truncated.ok (hr.mono (by omega)) G_Truncated.bd .nil pass0 (by rfl) G_Truncated.g (pa_cons (pe_callB call_len_seq (by rfl) B.len PySem.boot_len (pa_cons (pv 1) pa_nil)) pa_nil)))) pss_nil)
      (pss_cons (ps_set (i := 3) sc_refill.nd rfl (Or.inl rfl) (pe_op op_add (pe_op op_shl (pv 3) (pe_glob (v := .int 8) (by rfl) T.g_WORD_BITS ⟨_, rfl⟩)) (pe_ix ix_list (pv 1) (pv 4) (fun _ _ => rfl))))
      (pss_one (ps_aug (i := 4) sc_refill.nd rfl (Or.inl rfl) pe_int ip_add)))))
      (pss_one (ps_ret (pe_tup (pa_cons (pv 3) (pa_cons (pv 4) pa_nil)))))))), ?_⟩
    refine q_asg (v := .int x) (ev_var rfl) fun H1 e1 => ?_
    refine q_asg (v := .int (u : Int)) (ev_var rfl) fun H2 e2 => ?_
    have e12 := e1.trans e2
    have h2 : (256 : Int) ^ 2 = 65536 := by decide
    refine q_while (fun c σ' H' => ∃ (y : Int) (v : Nat), c ≤ 3 ∧ (y < 65536 → 1 ≤ c) ∧ 256 ^ 2 ≤ y * 256 ^ (c - 1) ∧ 1 ≤ y ∧ rf ws 3 x u = rf ws c y v ∧ σ' = [some (.int x), some (.ref l), some (.int (u : Int)), some (.int y), some (.int (v : Int))] ∧ Ex H H') 3 ⟨x, u, by omega, (fun _ => by decide), by
      show (256 : Int) ^ 2 ≤ x * 256 ^ 2
      rw [h2]
      omega, hx, rfl, rfl, e12⟩ ?_
    rintro c σ' H' ⟨y, v, hc3, hc1, hyc, hy, hrf, rfl, ex⟩
    refine ⟨decide (y < 65536), et_test (ev_op (ev_var (v := .int y) rfl) ev_c rv_I0), fun hb H3 e3 => ?_, fun hb H3 e3 => ?_⟩
    · have hlt := of_decide_eq_true hb
      obtain ⟨g, hg⟩ : ∃ g, c = g + 1 := ⟨c - 1, by have := hc1 hlt; omega⟩
      subst hg
      rw [rf_succ ws g y v, if_pos hlt] at hrf
      have e03 := ex.trans e3
      have hs3 := ex_l e03 hs
      refine ⟨fun σ2 H2 => ∃ (y : Int) (v : Nat), g ≤ 3 ∧ (y < 65536 → 1 ≤ g) ∧ 256 ^ 2 ≤ y * 256 ^ (g - 1) ∧ 1 ≤ y ∧ rf ws 3 x u = rf ws g y v ∧ σ2 = [some (.int x), some (.ref l), some (.int (u : Int)), some (.int y), some (.int (v : Int))] ∧ Ex H H2, fun σ2 H2 h => ⟨g, by omega, h⟩, ?_⟩
      refine q_when (et_test (ev_op (ev_var (v := .int (v : Int)) rfl) (ev_is (ev_len (K := K) (ev_var rfl) hs3) (by rw [List.length_map])) rv_I0)) (fun hb2 H4 e4 => ?_) (fun hb2 H4 e4 => ?_)
      · have hge := of_decide_eq_true hb2
        rw [if_pos (by omega)] at hrf
        rw [hrf] at q
        exact s_mk (i := (ws.length : Int)) G_Truncated.er (ev_is (ev_len (K := K) (ev_var rfl) (ex_l e4 hs3)) (by rw [List.length_map])) (by omega) (ErrOut.mono (e03.trans e4) q)
      · have hlt2 := of_decide_eq_false hb2
        have hvl : v < ws.length := by omega
        rw [if_neg (by omega)] at hrf
        have hw : 0 ≤ ws.getD v 0 := by
          rw [List.getD_eq_getElem?_getD, List.getElem?_eq_getElem hvl]
          exact h0 _ (List.getElem_mem hvl)
        refine q_asg (v := .int (y * 256 + ws.getD v 0)) (ev_is (ev_add (ev_op (ev_var (v := .int y) rfl) (ev_c (v := .int 8)) (rv_shl ⟨by decide, by decide, by omega⟩)) (ev_op (ev_var (v := .ref l) rfl) (ev_var (v := .int (v : Int)) rfl) (rv_ixL (ex_l e4 hs3) (atI_at rfl hvl)))) (by
          show V.int (y * 2 ^ (8 : Int).toNat + _) = _
          rw [show (2 : Int) ^ (8 : Int).toNat = 256 by decide])) fun H5 e5 => ?_
        refine s_aug (a := (v : Int)) (b := 1) rfl ev_c fun H6 e6 => ⟨y * 256 + ws.getD v 0, v + 1, by omega, fun hlt3 => ?_, ?_, by omega, hrf, rfl, ((e03.trans e4).trans e5).trans e6⟩
        · cases g with
          | zero =>
            simp at hyc
            omega
          | succ g => omega
        · cases g with
          | zero =>
            simp at hyc
            omega
          | succ g =>
            have e1 : g + 1 + 1 - 1 = g + 1 := rfl
            have e2 : g + 1 - 1 = g := rfl
            rw [e1, Int.pow_succ 256 g] at hyc
            rw [e2]
            have hp : (0 : Int) ≤ 256 ^ g := Int.le_of_lt (Int.pow_pos (by decide))
            have := Int.mul_nonneg hw hp
            have e3 : (y * 256 + ws.getD v 0) * 256 ^ g = y * (256 ^ g * 256) + ws.getD v 0 * 256 ^ g := by grind
            rw [e3]
            omega
    · have hge := of_decide_eq_false hb
      rw [rf_big (ws := ws) (x := y) (u := v) (by omega) c] at hrf
      rw [hrf] at q
      exact s_ret2 (ev_var rfl) (ev_var rfl) (RetT.mono (ex.trans e3) q)
def OutU (CT : Addr) (len : Nat) (r : Option (List Nat × Int × Nat)) (H : Hp) (Q : VK) (E : XK) : Prop := match r with
  | some (msg, z, v) => ∀ b t H', H b = none → H t = none → Ex H H' → H' b = some (.lst (natV msg)) → H' t = some (.tup [.ref b, .int z, .int (v : Int)]) → Q (.ref t) H'
  | none => ErrOut CT "Truncated" (len : Int) H E
def spUnpackW (K : PySem.W.Frag) (Cl : Nat → Addr) (CT : Addr) : Sp := fun vs H Q E => ∃ (p l : Addr) (m : Md) (F : Addr → Prop) (n c : Nat) (y : Int) (ws : List Int), vs = [.ref p, .int y, .ref l, .int (c : Int)] ∧ MAt Cl H p m F ∧ Ok n m ∧ Tot n m.row ∧ 65536 ≤ y ∧ SqL K H l (ws.map V.int) ∧ (∀ w ∈ ws, 0 ≤ w) ∧ ws.length ≤ 10000 ∧ c ≤ 1000 ∧ OutU CT ws.length (upw m.row ws c y 0 []) H Q E
theorem ok_unpack_words {f : Addr} {fd : FuncData} {k : Nat} (Fn : Fun K "unpack_words" "unpack_words" s_unpack_words f fd) (B : Bs mg) (C_pop : Cal P w K mg base "pop" 4 ["model", "number"] (spPop Cl)) (C_refill : CalX P w K mg base "refill" 3 ["state", "words", "used"] (spRefill K CT)) (D_fresh : DFresh P w K mg base Cl) (D_learn : DLearn P w K mg base Cl) :
    FnOk P w K mg base (L2.CX P w) (k + 6) f fd ["model", "state", "words", "count"] (spUnpackW K Cl CT) := by
  refine Fn.okX sc_unpack_words (fun vs H Q E h => ?_) (fun cdv A outer s H vs Q E hr h => ?_)
  · obtain ⟨p, l, m, F, n, c, y, ws, rfl, _⟩ := h
    rfl
  · obtain ⟨p, l, m, F, n, c, y, ws, rfl, hm, hok, ht, hy, hs, h0, hwl, hc, q⟩ := h
    refine ⟨_, (pss_cons (ps_set (i := 4) sc_unpack_words.nd rfl (Or.inl rfl) (pe_methD0 (pv 0) D_fresh (hr.mono (by omega))))
      (pss_cons (ps_set (i := 5) sc_unpack_words.nd rfl (Or.inl rfl) (pv 1))
      (pss_cons (ps_set (i := 6) sc_unpack_words.nd rfl (Or.inl rfl) pe_int)
      (pss_cons (ps_set (i := 7) sc_unpack_words.nd rfl (Or.inl rfl) (pe_lst pa_nil))
      (pss_cons (ps_for (passes_of rfl) rfl (pi_range1 (by rfl) B.range (pa_cons (pv 3) pa_nil)) (pg_name (i := 8) sc_unpack_words.nd rfl (Or.inl rfl)) (pss_cons (ps_asg (pe_callC C_pop (hr.mono (by omega)) (by rfl) (pa_cons (pv 4) (pa_cons (pv 5) pa_nil))) (pg_tup rfl (pgs_cons (pg_name (i := 9) sc_unpack_words.nd rfl (Or.inl rfl)) (pgs_cons (pg_name (i := 5) sc_unpack_words.nd rfl (Or.inl rfl)) pgs_nil))))
      (pss_cons (ps_asg (pe_callX C_refill (hr.mono (by omega)) (by rfl) (passes_call (takes_of rfl rfl rfl rfl) (fun _ _ _ _ h => h)) (pa_cons (pv 5) (pa_cons (pv 2) (pa_cons (pv 6) pa_nil)))) (pg_tup rfl (pgs_cons (pg_name (i := 5) sc_unpack_words.nd rfl (Or.inl rfl)) (pgs_cons (pg_name (i := 6) sc_unpack_words.nd rfl (Or.inl rfl)) pgs_nil))))
      (pss_cons (ps_expr (pe_methD (pv 4) D_learn (hr.mono (by omega)) (pa_cons (pv 9) pa_nil)))
      (pss_one (ps_expr (pe_bm PySem.F.plainAttrs_list PySem.F.slot_list_append PySem.F.type_list_append mt_append (pv 7) (pa_cons (pv 9) pa_nil))))))))
      (pss_one (ps_ret (pe_tup (pa_cons (pv 7) (pa_cons (pv 5) (pa_cons (pv 6) pa_nil))))))))))), ?_⟩
    have hk0 := hm.kd
    obtain ⟨d, hd1, hd, hq, hle⟩ := ht.fact
    refine q_asgP (ep_fresh2 hm hok (ev_var rfl)) fun v H1 e1 ⟨p', F', ev, hm1, hf1⟩ => ?_
    subst ev
    rw [fresh0 hk0] at hm1
    refine q_asg (v := .int y) (ev_var rfl) fun H2 e2 => ?_
    refine q_asg (v := .int 0) ev_c fun H3 e3 => ?_
    refine q_asgL (xs := []) (el_lst ea_nil (by decide)) fun pf H4 npf e4 h4 => ?_
    have e13 := (e1.trans e2).trans e3
    have npf0 : H pf = none := fresh_back e13 npf
    have nF' : ¬ F' pf := fun z => hm1.foot pf z (fresh_back (e2.trans e3) npf)
    refine q_forR1 (n := (c : Int)) (ea1 (ev_var rfl)) ⟨by omega, by omega⟩ (fun i σ' H' => ∃ (F2 : Addr → Prop) (a b : Option V) (z : Int) (u : Nat) (acc : List Nat), σ' = [some (.ref p), some (.int y), some (.ref l), some (.int (c : Int)), some (.ref p'), some (.int z), some (.int (u : Int)), some (.ref pf), a, b] ∧ Ex H H' ∧ MAt Cl H' p' m F2 ∧ (∀ b, F2 b → H b = none) ∧ ¬ F2 pf ∧ H' pf = some (.lst (natV acc)) ∧ acc.length = i ∧ 65536 ≤ z ∧ upw m.row ws c y 0 [] = upw m.row ws (c - i) z u acc)
      (fun H5 e5 => ⟨F', none, none, y, 0, [], rfl, (e13.trans e4).trans e5, hm1.ext (((e2.trans e3).trans e4).trans e5), hf1, nF', e5 _ _ h4, rfl, hy, rfl⟩) ?_ ?_
    · rintro i σ' H' hi ⟨F2, a, b, z, u, acc, rfl, ex, hm2, hf2, nF2, hpf, hai, hz, hup⟩
      have hci : c - i = (c - (i + 1)) + 1 := by omega
      rw [hci, upw_succ] at hup
      obtain ⟨s1, s2, s3⟩ := pop_pos ht hz
      refine q_unpX (vs := [.ref p', .int z]) (ea2 (ev_var rfl) (ev_var rfl)) fun H5 e5 => ⟨p', m, F2, n, z, rfl, hm2.ext e5, hok, hle, by omega, ?_⟩
      intro t H6 nt e6 ht6
      refine g_two (st_of ht6) ?_
      have e56 := e5.trans e6
      have e06 := ex.trans e56
      refine q_unpX (vs := [.int (ppR m.row z), .ref l, .int (u : Int)]) (ea3 (ev_var rfl) (ev_var rfl) (ev_var rfl)) fun H7 e7 => ⟨_, l, ws, u, rfl, s1, ex_l (e06.trans e7) hs, h0, hwl, ?_⟩
      cases hrf : rf ws 3 (ppR m.row z) u with
      | none =>
        rw [hrf] at hup
        rw [hup] at q
        exact ErrOut.mono (e06.trans e7) q
      | some q0 =>
        obtain ⟨z2, u2⟩ := q0
        rw [hrf] at hup
        simp only at hup
        have hz2 := rf_three h0 s1 hrf
        intro t2 H8 nt2 e8 ht8
        refine g_two (st_of ht8) ?_
        have e58 := (e56.trans e7).trans e8
        refine q_learn (hm2.ext e58) hok (ev_var rfl) (ea1 (ev_var rfl)) s2 fun H9 F9 hm9 kp9 fr9 => ?_
        rw [learn0 hk0] at hm9
        have hpf9 : H9 pf = some (.lst (natV acc)) := kp9 _ _ (e58 _ _ hpf) nF2
        have nF9 : ¬ F9 pf := fun z => by
          rcases fr9 pf z with y | y
          · exact nF2 y
          · rw [e58 _ _ hpf] at y
            cases y
        refine s_app hpf9 (ev_var rfl) (ev_var rfl) (by rw [List.length_map]; omega) fun H10 e10 => ⟨F9, _, _, z2, u2, acc ++ [ppS m.row z], rfl, ?_, ?_, fun b hb => ?_, nF9, ?_, by simp [hai], hz2, hup⟩
        · refine Ex.mut (fun b o hb => e10 _ _ (kp9 _ _ (e58 _ _ (ex _ _ hb)) fun z => ?_)) npf0
          rw [hf2 b z] at hb
          cases hb
        · exact (hm9.ext e10).keep fun b o fb hb => by
            rw [upd_ne (fun z => nF9 (by rw [← z]; exact fb))]
            exact hb
        · rcases fr9 b hb with z | z
          · exact hf2 b z
          · exact fresh_back (ex.trans e58) z
        · rw [upd_same]
          simp [natV]
    · rintro σ' H' ⟨F2, a, b, z, u, acc, rfl, ex, hm2, hf2, nF2, hpf, hai, hz, hup⟩
      rw [Int.toNat_natCast, Nat.sub_self] at hup
      have hup2 : upw m.row ws c y 0 [] = some (acc, z, u) := hup
      rw [hup2] at q
      exact s_ret3 (x := .ref pf) (ev_var rfl) (ev_var rfl) (ev_var rfl) fun t H4 nt e4 ht => q pf t H4 npf0 (fresh_back ex nt) (ex.trans e4) (e4 _ _ hpf) ht
end
end K13
set_option Elab.async false
set_option linter.all false
set_option maxRecDepth 100000
set_option maxHeartbeats 4000000
namespace K13
open PySem PySem.Spec PyProof.Rows L2 StX GX KC Evl M08 M09 M10 M01 M12 M13 KX KQ
section
variable {P : Program} {w : World} {K : PySem.W.Frag} {mg : Str → Option Value} {base : Heap} {Cl : Nat → Addr} {σ : L2.St} {H H' : Hp} {p d R r : Addr} {rs : List Addr} {m : Md} {n : Nat} {F : Addr → Prop} {ta tb te : TE} {D : Ends} {tz : TS} {CT : Addr} {t1 t2 t3 : Tok}
def spWeights (K : PySem.W.Frag) : Sp := fun vs H Q _ => ∃ (a : Addr) (ns : List Int), vs = [.ref a] ∧ SqL K H a (ns.map V.int) ∧ ∀ p H' n row, n ≤ 6 → Tot n row → H p = none → Ex H H' → H' p = some (.lst (row.map V.int)) → Q (.ref p) H'
theorem ok_weights {f : Addr} {fd : FuncData} {k : Nat} (Fn : Fun K "_law_weights" "_law_weights" s_law_weights f fd) (B : Bs mg) (C_law_cell : Cal P w K mg base "_law_cell" 1 ["script", "k"] (spCell K)) : FnOk P w K mg base CX0 (k + 2) f fd ["script"] (spWeights K) := by
  refine Fn.ok sc_law_weights (fun vs H Q E h => ?_) (fun cdv A outer s H vs Q E hr h => ?_)
  · obtain ⟨a, ns, rfl, _⟩ := h
    rfl
  · obtain ⟨a, ns, rfl, hs, q⟩ := h
    refine ⟨_, (pss_cons (ps_set (i := 1) sc_law_weights.nd rfl (Or.inl rfl) (pe_callC C_law_cell (hr.mono (by omega)) (by rfl) (pa_cons (pv 0) (pa_cons pe_int pa_nil))))
      (pss_cons (ps_set (i := 2) sc_law_weights.nd rfl (Or.inl rfl) (pe_op op_add pe_int (pe_op op_mod (pv 1) pe_int)))
      (pss_cons (ps_set (i := 3) sc_law_weights.nd rfl (Or.inl rfl) (pe_op op_shl pe_int (pe_op op_mod (pe_op op_fdiv (pv 1) pe_int) pe_int)))
      (pss_cons (ps_set (i := 4) sc_law_weights.nd rfl (Or.inl rfl) (pe_lst pa_nil))
      (pss_cons (ps_set (i := 5) sc_law_weights.nd rfl (Or.inl rfl) (pv 3))
      (pss_cons (ps_for PassesOwn.never rfl (pi_range1 (by rfl) B.range (pa_cons (pe_op op_sub (pv 2) pe_int) pa_nil)) (pg_name (i := 6) sc_law_weights.nd rfl (Or.inl rfl)) (pss_cons (ps_set (i := 7) sc_law_weights.nd rfl (Or.inl rfl) (pe_op op_mod (pe_callC C_law_cell (hr.mono (by omega)) (by rfl) (pa_cons (pv 0) (pa_cons (pe_op op_add pe_int (pv 6)) pa_nil))) (pe_op op_add (pv 5) pe_int)))
      (pss_cons (ps_if (pt_cmpR op_eq (pe_op op_mod (pe_callC C_law_cell (hr.mono (by omega)) (by rfl) (pa_cons (pv 0) (pa_cons (pe_op op_add pe_int (pv 6)) pa_nil))) pe_int) pe_int (nomark _)) (pss_one (ps_set (i := 7) sc_law_weights.nd rfl (Or.inl rfl) (pe_callB (call_min2 rfl) (by rfl) B.min (by decide +kernel) (pa_cons (pv 5) (pa_cons pe_int pa_nil))))) pss_nil)
      (pss_cons (ps_expr (pe_bm PySem.F.plainAttrs_list PySem.F.slot_list_append PySem.F.type_list_append mt_append (pv 4) (pa_cons (pv 7) pa_nil)))
      (pss_one (ps_set (i := 5) sc_law_weights.nd rfl (Or.inl rfl) (pe_op op_sub (pv 5) (pv 7))))))))
      (pss_cons (ps_expr (pe_bm PySem.F.plainAttrs_list PySem.F.slot_list_append PySem.F.type_list_append mt_append (pv 4) (pa_cons (pv 5) pa_nil)))
      (pss_one (ps_ret (pv 4)))))))))), ?_⟩
    have cell : ∀ {σ : L2.St} {H9 : Hp} {te : TE} {j : Nat} {z : Int}, Ex H H9 → σ[0]? = some (some (.ref a)) → Ev te σ H9 (.int z) → z = (j : Int) → Ev (tCall (spCell K) [] E0 (tCons (tVar 0) (tCons te tNil))) σ H9 (.int (cellOf ns j)) := fun e h0 h ez => ev_call (vs := [.ref a, .int _]) (ea2 (ev_var h0) h) (spv_cell (ex_l e hs) ez)
    refine q_asg (cell (j := 0) (Ex.refl _) rfl (ev_c (v := .int 0)) rfl) fun H1 e1 => ?_
    generalize cellOf ns 0 = c
    obtain ⟨n, hn, hn6⟩ : ∃ n : Nat, 1 + c % 6 = (n : Int) + 1 ∧ n ≤ 5 := ⟨(c % 6).toNat, by omega, by omega⟩
    refine q_asg (v := .int ((n : Int) + 1)) (ev_is (ev_add ev_c (ev_op (ev_var (v := .int c) rfl) ev_c (rv_mod (by decide)))) (by rw [hn])) fun H2 e2 => ?_
    obtain ⟨e, he, he16⟩ : ∃ e : Nat, c / 6 % 17 = (e : Int) ∧ e ≤ 16 := ⟨(c / 6 % 17).toNat, by omega, by omega⟩
    refine q_asg (v := .int (2 ^ e)) (ev_shl1 (m := e) (ev_op (ev_op (ev_var (v := .int c) rfl) ev_c (rv_div (by decide) (by decide))) ev_c (rv_mod (by decide))) he (by omega)) fun H3 e3 => ?_
    have hp1 : (1 : Int) ≤ 2 ^ e := by have := Int.pow_pos (n := 2) (m := e) (by decide); omega
    have hdv : (2 : Int) ^ e * 2 ^ (16 - e) = 65536 := by
      rw [← Int.pow_add, show e + (16 - e) = 16 by omega]
      decide
    generalize (2 : Int) ^ (16 - e) = dd at hdv
    generalize (2 : Int) ^ e = T at hp1 hdv
    refine q_asgL (xs := []) (el_lst ea_nil (by decide)) fun pw H4 npw e4 h4 => ?_
    refine q_asg (v := .int T) (ev_var rfl) fun H5 e5 => ?_
    have e13 := (e1.trans e2).trans e3
    have e15 := (e13.trans e4).trans e5
    have npw0 : H pw = none := fresh_back e13 npw
    refine q_forR1 (n := (n : Int)) (ea1 (ev_is (ev_sub (ev_var (v := .int ((n : Int) + 1)) rfl) ev_c) (by congr 1; omega))) ⟨by omega, by omega⟩
      (fun i σ' H' => ∃ (ws : List Int) (left : Int) (x y : Option V), σ' = [some (.ref a), some (.int c), some (.int ((n : Int) + 1)), some (.int T), some (.ref pw), some (.int left), x, y] ∧ Ex H H' ∧ H' pw = some (.lst (ws.map V.int)) ∧ ws.length = i ∧ (∀ z ∈ ws, 0 ≤ z) ∧ 0 ≤ left ∧ ws.sum + left = T)
      (fun H6 e6 => ⟨[], T, none, none, rfl, e15.trans e6, (e5.trans e6) _ _ h4, rfl, (fun z h => absurd h List.not_mem_nil), by omega, by simp⟩) ?_ ?_
    · rintro i σ' H' hi ⟨ws, left, x, y, rfl, ex, hpw, hwl, hw0, hl0, hsum⟩
      refine q_asg (v := .int (cellOf ns (1 + i) % (left + 1))) (ev_op (cell (j := 1 + i) ex rfl (ev_add ev_c (ev_var (v := .int (i : Int)) rfl)) (by omega)) (ev_add (ev_var rfl) ev_c) (rv_mod (by omega))) fun H6 e6 => ?_
      have hm0 := Int.emod_nonneg (cellOf ns (1 + i)) (show left + 1 ≠ 0 by omega)
      have hm1 := Int.emod_lt_of_pos (cellOf ns (1 + i)) (show 0 < left + 1 by omega)
      obtain ⟨wt, hwt, hwt0, hwt1⟩ : ∃ wt : Int, wt = (if cellOf ns (1 + i) % 3 = 1 then (if (1 : Int) < left then 1 else left) else cellOf ns (1 + i) % (left + 1)) ∧ 0 ≤ wt ∧ wt ≤ left := ⟨_, rfl, by split <;> (try split) <;> omega, by split <;> (try split) <;> omega⟩
      refine q_ifAsg (v := .int wt) (b := decide (cellOf ns (1 + i) % 3 = 1)) (et_test (ev_eq (ev_op (cell (j := 1 + i) (ex.trans e6) rfl (ev_add ev_c (ev_var (v := .int (i : Int)) rfl)) (by omega)) ev_c (rv_mod (by decide))) ev_c)) (fun hb => ?_) (fun hb => ?_) fun H7 e7 => ?_
      · rw [hwt, if_pos (of_decide_eq_true hb)]
        exact ev_min (ev_var rfl) ev_c
      · rw [hwt, if_neg (of_decide_eq_false hb)]
        rfl
      refine q_app ((e6.trans e7) _ _ hpw) (ev_var rfl) (ev_var (v := .int wt) rfl) (by rw [List.length_map]; omega) fun H8 e8 => ?_
      refine s_asg (v := .int (left - wt)) (ev_sub (ev_var (v := .int left) rfl) (ev_var (v := .int wt) rfl)) fun H9 e9 => ⟨ws ++ [wt], left - wt, _, _, rfl, (Ex.mut ((ex.trans e6).trans (e7.trans e8)) npw0).trans e9, ?_, by simp [hwl], fun z hz => ?_, by omega, ?_⟩
      · rw [e9 _ _ upd_same, List.map_append]
        rfl
      · rcases List.mem_append.mp hz with y | y
        · exact hw0 z y
        · rw [List.mem_singleton.mp y]
          exact hwt0
      · rw [List.sum_append]
        simp
        omega
    · rintro σ' H' ⟨ws, left, x, y, rfl, ex, hpw, hwl, hw0, hl0, hsum⟩
      rw [Int.toNat_natCast] at hwl
      refine q_app hpw (ev_var rfl) (ev_var (v := .int left) rfl) (by rw [List.length_map]; omega) fun H6 e6 => ?_
      refine s_ret (ev_var rfl) fun H7 e7 => q pw H7 (n + 1) (ws ++ [left]) (by omega) ⟨⟨by simp [hwl], fun z hz => ?_, ?_⟩, dd, ?_⟩ npw0 ((Ex.mut (ex.trans e6) npw0).trans e7) ?_
      · rcases List.mem_append.mp hz with y | y
        · exact hw0 z y
        · rw [List.mem_singleton.mp y]
          exact hl0
      · rw [List.sum_append]
        simp
        omega
      · rw [List.sum_append, show ws.sum + [left].sum = T by simp; omega]
        exact hdv
      · rw [e7 _ _ upd_same, List.map_append]
        rfl
def spLPackedW (K : PySem.W.Frag) : Sp := fun vs H Q _ => ∃ (lw l : Addr) (n : Nat) (row : List Int) (msg : List Nat), vs = [.ref lw, .ref l] ∧ SqL K H lw (row.map V.int) ∧ SqL K H l (natV msg) ∧ Tot n row ∧ (∀ s ∈ msg, s < n ∧ 1 ≤ row.getD s 0) ∧ msg.length ≤ 1000 ∧ ∀ b t H', H t = none → Ex H H' → H' b = some (.lst ((pkw row msg).2.map V.int)) → H' t = some (.tup [.int (pkw row msg).1, .ref b]) → Q (.ref t) H'
theorem ok_lpackedw {f : Addr} {fd : FuncData} {k : Nat} (Fn : Fun K "_law_packed" "_law_packed" s_law_packed f fd) (B : Bs mg) : FnOk P w K mg base CX0 (k + 1) f fd ["weights", "message"] (spLPackedW K) := by
  refine Fn.ok sc_law_packed (fun vs H Q E h => ?_) (fun cdv A outer s H vs Q E hr h => ?_)
  · obtain ⟨lw, l, n, row, msg, rfl, _⟩ := h
    rfl
  · obtain ⟨lw, l, n, row, msg, rfl, hsw, hs, ht, hmn, hml, q⟩ := h
    refine ⟨_, (pss_cons (ps_set (i := 2) sc_law_packed.nd rfl (Or.inl rfl) pe_int)
      (pss_cons (ps_set (i := 3) sc_law_packed.nd rfl (Or.inl rfl) (pe_callB (cr_sum rfl) (by rfl) B.sum (by decide +kernel) (pa_cons (pv 0) pa_nil)))
      (pss_cons (ps_set (i := 4) sc_law_packed.nd rfl (Or.inl rfl) (pe_lst pa_nil))
      (pss_cons (ps_for PassesOwn.never rfl (pi_range1 (by rfl) B.range (pa_cons (pe_callB call_len_seq (by rfl) B.len PySem.boot_len (pa_cons (pv 1) pa_nil)) pa_nil)) (pg_name (i := 5) sc_law_packed.nd rfl (Or.inl rfl)) (pss_cons (ps_set (i := 6) sc_law_packed.nd rfl (Or.inl rfl) (pe_ix ix_list (pv 1) (pe_op op_sub (pe_op op_sub (pe_callB call_len_seq (by rfl) B.len PySem.boot_len (pa_cons (pv 1) pa_nil)) pe_int) (pv 5)) (fun _ _ => rfl)))
      (pss_cons (ps_set (i := 7) sc_law_packed.nd rfl (Or.inl rfl) (pe_ix ix_list (pv 0) (pv 6) (fun _ _ => rfl)))
      (pss_cons (ps_for PassesOwn.never rfl (pi_range1 (by rfl) B.range (pa_cons pe_int pa_nil)) (pg_name (i := 8) sc_law_packed.nd rfl (Or.inl rfl)) (pss_one (ps_if (pt_cmpR op_ge (pv 2) (pe_op op_mul (pe_op op_fdiv pe_int (pv 3)) (pv 7)) (nomark _)) (pss_cons (ps_set (i := 4) sc_law_packed.nd rfl (Or.inl rfl) (pe_op op_cat (pe_lst (pa_cons (pe_op op_mod (pv 2) pe_int) pa_nil)) (pv 4)))
      (pss_one (ps_set (i := 2) sc_law_packed.nd rfl (Or.inl rfl) (pe_op op_fdiv (pv 2) pe_int)))) pss_nil)))
      (pss_one (ps_set (i := 2) sc_law_packed.nd rfl (Or.inl rfl) (pe_op op_add (pe_op op_add (pe_op op_mul (pe_op op_fdiv (pv 2) (pv 7)) (pv 3)) (pe_callB (cr_sum rfl) (by rfl) B.sum (by decide +kernel) (pa_cons (pe_slice sl_list (pv 0) po_none (po_some (pv 6))) pa_nil))) (pe_op op_mod (pv 2) (pv 7)))))))))
      (pss_one (ps_ret (pe_tup (pa_cons (pv 2) (pa_cons (pv 4) pa_nil))))))))), ?_⟩
    obtain ⟨d, hd1, hd, hq, hle⟩ := ht.fact
    have hro := ht.ok
    have hpos := hro.2.2
    refine q_asg (v := .int 65536) ev_c fun H1 e1 => ?_
    refine q_asg (v := .int row.sum) (ev_sumLa (ev_var rfl) (ex_l e1 hsw)) fun H2 e2 => ?_
    refine q_asgL (xs := []) (el_lst ea_nil (by decide)) fun pf H3 npf e3 h3 => ?_
    have e13 := (e1.trans e2).trans e3
    refine q_forR1 (n := (msg.length : Int)) (ea1 (ev_is (ev_len (K := K) (ev_var rfl) (ex_l e13 hs)) (by rw [List.length_map]))) ⟨by omega, by omega⟩
      (fun i σ' H' => ∃ pf a b c y, σ' = [some (.ref lw), some (.ref l), some (.int (pkw row (msg.drop (msg.length - i))).1), some (.int row.sum), some (.ref pf), a, b, c, y] ∧ Ex H H' ∧ H' pf = some (.lst ((pkw row (msg.drop (msg.length - i))).2.map V.int)))
      (fun H4 e4 => ⟨pf, none, none, none, none, by rw [Nat.sub_zero, List.drop_of_length_le (Nat.le_refl _)]; rfl, e13.trans e4, by rw [Nat.sub_zero, List.drop_of_length_le (Nat.le_refl _)]; exact e4 _ _ h3⟩) ?_ ?_
    · rintro i σ' H' hi ⟨pf, a, b, c, y, rfl, ex, hpf⟩
      have hil : i < msg.length := by omega
      obtain ⟨sy, hsy⟩ : ∃ sy, msg[msg.length - 1 - i]? = some sy := ⟨_, List.getElem?_eq_getElem (by omega)⟩
      obtain ⟨hsn, hw1⟩ := hmn sy (List.mem_of_getElem? hsy)
      obtain ⟨k1, k2, k3⟩ := take_le hro hsn
      have hsl : sy < row.length := by rw [hro.1]; exact hsn
      have hpk := pkw_drop (row := row) hsy
      rw [show msg.length - 1 - i + 1 = msg.length - i by omega] at hpk
      have hbd := pkw_bd ht (msg.drop (msg.length - i)) fun s hs => hmn s (List.mem_of_mem_drop hs)
      have hlen : (msg.drop (msg.length - i)).length ≤ 1000 := by rw [List.length_drop]; omega
      rw [show msg.length - (i + 1) = msg.length - 1 - i by omega, hpk]
      generalize pkw row (msg.drop (msg.length - i)) = r0 at *
      obtain ⟨g1, g2, g3, g4⟩ := push_bd ht hsn hw1 hbd.1 hbd.2.1
      refine q_asg (v := .int (sy : Int)) (ev_op (ev_var (v := .ref l) rfl) (ev_sub (ev_sub (ev_is (ev_len (K := K) (ev_var rfl) (ex_l ex hs)) (by rw [List.length_map])) ev_c) (ev_var (v := .int (i : Int)) rfl)) (rv_ixL (ex_l ex hs) (at_of (j := msg.length - 1 - i) (by omega) (by rw [List.getElem?_map, hsy]; rfl)))) fun H4 e4 => ?_
      refine q_asg (v := .int (row.getD sy 0)) (ev_op (ev_var (v := .ref lw) rfl) (ev_var (v := .int (sy : Int)) rfl) (rv_ixL (ex_l (ex.trans e4) hsw) (atI_at rfl hsl))) fun H5 e5 => ?_
      have e05 := (ex.trans e4).trans e5
      have hen : 16777216 / row.sum * row.getD sy 0 = endOf row sy := rfl
      have hpf5 := (e4.trans e5) _ _ hpf
      refine q_forR1 (n := 4) (ea1 ev_c) ⟨by decide, by decide⟩ (fun j σ2 H2 => ∃ pf em x y, σ2 = [some (.ref lw), some (.ref l), some (.int x), some (.int row.sum), some (.ref pf), some (.int (i : Int)), some (.int (sy : Int)), some (.int (row.getD sy 0)), y] ∧ nrm (endOf row sy) 4 r0.1 = (em ++ (nrm (endOf row sy) (4 - j) x).1, (nrm (endOf row sy) (4 - j) x).2) ∧ em.length ≤ j ∧ Ex H H2 ∧ H2 pf = some (.lst ((em.reverse ++ r0.2).map V.int)))
        (fun H6 e6 => ⟨pf, [], r0.1, y, rfl, rfl, Nat.le_refl _, e05.trans e6, e6 _ _ hpf5⟩) ?_ ?_
      · rintro j σ2 H2' hj ⟨pf, em, x, y, rfl, hn, hel, ex2, hpf2⟩
        have hj4 : 4 - j = (4 - (j + 1)) + 1 := by omega
        rw [hj4, nrm_succ (endOf row sy) (4 - (j + 1)) x] at hn
        refine s_when (b := decide (endOf row sy ≤ x)) (et_is (et_test (ev_op (ev_var (v := .int x) rfl) (ev_op (ev_op (ev_c (v := .int 16777216)) (ev_var (v := .int row.sum) rfl) (rv_div (by omega) (by omega))) (ev_var (v := .int (row.getD sy 0)) rfl) (rv_I (.inr ⟨by omega, by omega⟩))) rv_I0)) (decide_eq_decide.mpr (by rw [hen]))) (fun hb H6 e6 => ?_) (fun hb H6 e6 => ?_)
        · have hle2 := of_decide_eq_true hb
          rw [if_pos hle2] at hn
          refine q_asgL (xs := ((x % 256) :: (em.reverse ++ r0.2)).map V.int) (by
            rw [List.map_cons]
            exact el_cat (xs := [.int (x % 256)]) (el_lst (ea1 (ev_op (ev_var (v := .int x) rfl) ev_c (rv_mod (by decide)))) (by show 1 ≤ 100000; decide)) (ev_var rfl) (e6 _ _ hpf2) (by rw [List.length_map, List.length_append, List.length_reverse]; show 1 + _ ≤ 100000; omega)) fun p2 H7 np2 e7 h7 => ?_
          refine s_asg (v := .int (x / 256)) (ev_op (ev_var (v := .int x) rfl) ev_c (rv_div (by decide) (by decide))) fun H8 e8 => ⟨p2, em ++ [x % 256], x / 256, _, rfl, by rw [hn]; simp, by simp; omega, ((ex2.trans e6).trans e7).trans e8, ?_⟩
          rw [e8 _ _ h7]
          simp
        · have hgt := of_decide_eq_false hb
          rw [if_neg hgt] at hn
          exact ⟨pf, em, x, _, rfl, by rw [nrm_done hgt]; exact hn, by omega, ex2.trans e6, e6 _ _ hpf2⟩
      · rintro σ2 H2' ⟨pf, em, x, y, rfl, hn, hel, ex2, hpf2⟩
        have h40 : 4 - ((4 : Int)).toNat = 0 := rfl
        rw [h40] at hn
        have hn2 : nrm (endOf row sy) 4 r0.1 = (em, x) := by
          rw [hn]
          show (em ++ [], x) = _
          rw [List.append_nil]
        rw [hn2] at g1 ⊢
        refine s_asg (v := .int (psh row sy x)) (ev_add (ev_add (ev_op (ev_op (ev_var (v := .int x) rfl) (ev_var (v := .int (row.getD sy 0)) rfl) (rv_div (by omega) (by omega))) (ev_var (v := .int row.sum) rfl) (rv_I (.inr ⟨by omega, by omega⟩))) (ev_sumL (ns := row.take sy) (by rw [List.map_take, ← cutV_to]; exact el_sl (ev_var rfl) eo_none (eo_some (ev_var rfl)) (ex_l ex2 hsw)))) (ev_op (ev_var (v := .int x) rfl) (ev_var (v := .int (row.getD sy 0)) rfl) (rv_mod (by omega)))) fun H6 e6 => ⟨pf, _, _, _, _, rfl, ex2.trans e6, e6 _ _ hpf2⟩
    · rintro σ' H' ⟨pf, a, b, c, y, rfl, ex, hpf⟩
      rw [Int.toNat_natCast, Nat.sub_self, List.drop_zero] at hpf ⊢
      exact s_ret2 (ev_var rfl) (ev_var (v := .ref pf) rfl) fun t H2 nt e2 ht => q pf t H2 (fresh_back ex nt) (ex.trans e2) (e2 _ _ hpf) ht
end
end K13
set_option Elab.async false
set_option linter.all false
set_option maxRecDepth 100000
set_option maxHeartbeats 4000000
namespace K13
open PySem PySem.Spec PyProof.Rows L2 StX GX KC Evl M08 M09 M10 M01 M12 M13 KX KQ
def natsD (msg : List Nat) : PyData := .list ((msg.map fun (s : Nat) => (s : Int)).map PyData.int)
theorem nats_ints (msg : List Nat) : natV msg = (msg.map fun (s : Nat) => (s : Int)).map V.int := by
  rw [List.map_map]
  rfl
theorem natsD_dp {K : PySem.W.Frag} {H : Hp} {p : Addr} {msg : List Nat} (h : SqL K H p (natV msg)) : Dp K H (.ref p) (natsD msg) := dp_listI (by rw [← nats_ints]; exact h)
def resU (len : Nat) : Option (List Nat × Int × Nat) → PyData
  | some (msg, z, v) => .tuple [natsD msg, .int z, .int (v : Int)]
  | none => .tuple [.str "Truncated", .int (len : Int)]
theorem natsD_ok (msg : List Nat) : PyData.canLay0 (natsD msg) = true ∧ PyData.depth (natsD msg) ≤ 2 ∧ PyData.eqv (natsD msg) (natsD msg) = true := by
  have h1 := canLayAll0_map (f := PyData.int) (fun a => by simp [PyData.canLay0]) (msg.map fun (s : Nat) => (s : Int))
  have h2 := depthAll_map (f := PyData.int) (n := 1) (fun a => by simp [PyData.depth]) (msg.map fun (s : Nat) => (s : Int))
  refine ⟨?_, ?_, eqv_ints _⟩
  · unfold natsD
    simp only [PyData.canLay0]
    exact h1
  · unfold natsD
    simp only [PyData.depth]
    omega
theorem resU_shaped (len : Nat) (r : Option (List Nat × Int × Nat)) : SeqAt.shaped (resU len r) = true := by
  show (PyData.canLay0 _ && decide (PyData.depth _ ≤ 64)) = true
  rw [Bool.and_eq_true]
  match r with
  | some (msg, z, v) =>
    obtain ⟨a, b, _⟩ := natsD_ok msg
    refine ⟨by simp [resU, PyData.canLay0, PyData.canLayAll0, a], decide_eq_true ?_⟩
    simp only [resU, PyData.depth, PyData.depthAll]
    omega
  | none => exact ⟨by simp [resU, PyData.canLay0, PyData.canLayAll0] <;> decide +kernel, decide_eq_true (by simp [resU, PyData.depth, PyData.depthAll])⟩
theorem resU_eqv (len : Nat) (r : Option (List Nat × Int × Nat)) : PyData.eqv (resU len r) (resU len r) = true := by
  match r with
  | some (msg, z, v) => simp [resU, PyData.eqv, PyData.eqvAll, (natsD_ok msg).2.2]
  | none => simp [resU, PyData.eqv, PyData.eqvAll]
def wsD (st : Int) (ws : List Int) : PyData := .tuple [.int st, .list (ws.map PyData.int)]
theorem wsD_shaped (st : Int) (ws : List Int) : SeqAt.shaped (wsD st ws) = true := by
  have h1 := canLayAll0_map (f := PyData.int) (fun a => by simp [PyData.canLay0]) ws
  have h2 := depthAll_map (f := PyData.int) (n := 1) (fun a => by simp [PyData.depth]) ws
  show (PyData.canLay0 _ && decide (PyData.depth _ ≤ 64)) = true
  rw [Bool.and_eq_true]
  refine ⟨by simp [wsD, PyData.canLay0, PyData.canLayAll0, h1], decide_eq_true ?_⟩
  simp only [wsD, PyData.depth, PyData.depthAll]
  omega
theorem wsD_eqv (st : Int) (ws : List Int) : PyData.eqv (wsD st ws) (wsD st ws) = true := by
  have := eqv_ints ws
  simp only [PyData.eqv] at this
  simp [wsD, PyData.eqv, PyData.eqvAll, this]
section
variable {P : Program} {w : World} {K : PySem.W.Frag} {mg : Str → Option Value} {base : Heap} {Cl : Nat → Addr} {σ : L2.St} {H H' : Hp} {p d R r : Addr} {rs : List Addr} {m : Md} {n : Nat} {F : Addr → Prop} {ta tb te : TE} {D : Ends} {tz : TS} {CT : Addr} {t1 t2 t3 : Tok}
def spLUnpacked (K : PySem.W.Frag) : Sp := fun vs H Q _ => ∃ (lw l : Addr) (n c : Nat) (y : Int) (row ws : List Int), vs = [.ref lw, .int y, .ref l, .int (c : Int)] ∧ SqL K H lw (row.map V.int) ∧ SqL K H l (ws.map V.int) ∧ Tot n row ∧ n ≤ 100 ∧ 65536 ≤ y ∧ (∀ w ∈ ws, 0 ≤ w) ∧ ws.length ≤ 10000 ∧ c ≤ 1000 ∧ RetD K (resU ws.length (upw row ws c y 0 [])) H Q
theorem ok_lunpacked {f : Addr} {fd : FuncData} {k : Nat} (Fn : Fun K "_law_unpacked" "_law_unpacked" s_law_unpacked f fd) (B : Bs mg) : FnOk P w K mg base CX0 (k + 1) f fd ["weights", "state", "words", "count"] (spLUnpacked K) := by
  refine Fn.ok sc_law_unpacked (fun vs H Q E h => ?_) (fun cdv A outer s H vs Q E hr h => ?_)
  · obtain ⟨lw, l, n, c, y, row, ws, rfl, _⟩ := h
    rfl
  · obtain ⟨lw, l, n, c, y, row, ws, rfl, hsw, hs, ht, hn100, hy, h0, hwl, hc, q⟩ := h
    refine ⟨_, (pss_cons (ps_set (i := 4) sc_law_unpacked.nd rfl (Or.inl rfl) (pe_lst pa_nil))
      (pss_cons (ps_set (i := 5) sc_law_unpacked.nd rfl (Or.inl rfl) pe_int)
      (pss_cons (ps_set (i := 6) sc_law_unpacked.nd rfl (Or.inl rfl) (pe_callB (cr_sum rfl) (by rfl) B.sum (by decide +kernel) (pa_cons (pv 0) pa_nil)))
      (pss_cons (ps_for PassesOwn.never rfl (pi_range1 (by rfl) B.range (pa_cons (pv 3) pa_nil)) (pg_name (i := 7) sc_law_unpacked.nd rfl (Or.inl rfl)) (pss_cons (ps_set (i := 8) sc_law_unpacked.nd rfl (Or.inl rfl) (pe_op op_mod (pv 1) (pv 6)))
      (pss_cons (ps_set (i := 9) sc_law_unpacked.nd rfl (Or.inl rfl) pe_int)
      (pss_cons (ps_for PassesOwn.never rfl (pi_range1 (by rfl) B.range (pa_cons (pe_callB call_len_seq (by rfl) B.len PySem.boot_len (pa_cons (pv 0) pa_nil)) pa_nil)) (pg_name (i := 10) sc_law_unpacked.nd rfl (Or.inl rfl)) (pss_one (ps_if (pt_chain op_le op_lt (pe_callB (cr_sum rfl) (by rfl) B.sum (by decide +kernel) (pa_cons (pe_slice sl_list (pv 0) po_none (po_some (pv 10))) pa_nil)) (pv 8) (pe_callB (cr_sum rfl) (by rfl) B.sum (by decide +kernel) (pa_cons (pe_slice sl_list (pv 0) po_none (po_some (pe_op op_add (pv 10) pe_int))) pa_nil))) (pss_one (ps_set (i := 9) sc_law_unpacked.nd rfl (Or.inl rfl) (pv 10))) pss_nil)))
      (pss_cons (ps_expr (pe_bm PySem.F.plainAttrs_list PySem.F.slot_list_append PySem.F.type_list_append mt_append (pv 4) (pa_cons (pv 9) pa_nil)))
      (pss_cons (ps_set (i := 1) sc_law_unpacked.nd rfl (Or.inl rfl) (pe_op op_sub (pe_op op_add (pe_op op_mul (pe_ix ix_list (pv 0) (pv 9) (fun _ _ => rfl)) (pe_op op_fdiv (pv 1) (pv 6))) (pv 8)) (pe_callB (cr_sum rfl) (by rfl) B.sum (by decide +kernel) (pa_cons (pe_slice sl_list (pv 0) po_none (po_some (pv 9))) pa_nil))))
      (pss_one (ps_for PassesOwn.never rfl (pi_range1 (by rfl) B.range (pa_cons pe_int pa_nil)) (pg_name (i := 11) sc_law_unpacked.nd rfl (Or.inl rfl)) (pss_one (ps_if (pt_cmpR op_lt (pv 1) pe_int (nomark _)) (pss_cons (ps_if (pt_cmpR op_ge (pv 5) (pe_callB call_len_seq (by rfl) B.len PySem.boot_len (pa_cons (pv 2) pa_nil)) (nomark _)) (pss_one (ps_ret (pe_tup (pa_cons pe_str (pa_cons (pe_callB call_len_seq (by rfl) B.len PySem.boot_len (pa_cons (pv 2) pa_nil)) pa_nil))))) pss_nil)
      (pss_cons (ps_set (i := 1) sc_law_unpacked.nd rfl (Or.inl rfl) (pe_op op_add (pe_op op_mul (pv 1) pe_int) (pe_ix ix_list (pv 2) (pv 5) (fun _ _ => rfl))))
      (pss_one (ps_set (i := 5) sc_law_unpacked.nd rfl (Or.inl rfl) (pe_op op_add (pv 5) pe_int))))) pss_nil))))))))))
      (pss_one (ps_ret (pe_tup (pa_cons (pv 4) (pa_cons (pv 1) (pa_cons (pv 5) pa_nil)))))))))), ?_⟩
    obtain ⟨d, hd1, hd, hq, hle⟩ := ht.fact
    have hro := ht.ok
    have hpos := hro.2.2
    refine q_asgL (xs := []) (el_lst ea_nil (by decide)) fun pf H1 npf e1 h1 => ?_
    refine q_asg (v := .int 0) ev_c fun H2 e2 => ?_
    refine q_asg (v := .int row.sum) (ev_sumLa (ev_var rfl) (ex_l (e1.trans e2) hsw)) fun H3 e3 => ?_
    have e13 := (e1.trans e2).trans e3
    refine q_forR1 (n := (c : Int)) (ea1 (ev_var rfl)) ⟨by omega, by omega⟩ (fun i σ' H' => ∃ (z : Int) (u : Nat) (acc : List Nat) (x7 x8 x9 x10 x11 : Option V), σ' = [some (.ref lw), some (.int z), some (.ref l), some (.int (c : Int)), some (.ref pf), some (.int (u : Int)), some (.int row.sum), x7, x8, x9, x10, x11] ∧ Ex H H' ∧ H' pf = some (.lst (natV acc)) ∧ acc.length = i ∧ 65536 ≤ z ∧ upw row ws c y 0 [] = upw row ws (c - i) z u acc)
      (fun H4 e4 => ⟨y, 0, [], none, none, none, none, none, rfl, e13.trans e4, ((e2.trans e3).trans e4) _ _ h1, rfl, hy, rfl⟩) ?_ ?_
    · rintro i σ' H' hi ⟨z, u, acc, x7, x8, x9, x10, x11, rfl, ex, hpf, hai, hz, hup⟩
      have hci : c - i = (c - (i + 1)) + 1 := by omega
      rw [hci, upw_succ] at hup
      obtain ⟨s1, s2, s3⟩ := pop_pos ht hz
      have a0 := Int.emod_nonneg z (show row.sum ≠ 0 by omega)
      have a1 := Int.emod_lt_of_pos z (show 0 < row.sum by omega)
      obtain ⟨g1, g2, g3⟩ := symAt_spec row (z % row.sum) hro.2.1 a0 a1
      have hS : symAt row (z % row.sum) = ppS row z := rfl
      rw [hS] at g1 g2 g3
      obtain ⟨k1, k2, k3⟩ := take_le hro s2
      refine q_asg (v := .int (z % row.sum)) (ev_op (ev_var (v := .int z) rfl) (ev_var (v := .int row.sum) rfl) (rv_mod (by omega))) fun H4 e4 => ?_
      refine q_asg (v := .int 0) ev_c fun H5 e5 => ?_
      have e05 := (ex.trans e4).trans e5
      have hsw5 := ex_l e05 hsw
      refine q_forR1 (n := (n : Int)) (ea1 (ev_is (ev_len (K := K) (ev_var rfl) hsw5) (by rw [List.length_map, hro.1]))) ⟨by omega, by omega⟩ (fun j σ2 H2 => ∃ x10, σ2 = [some (.ref lw), some (.int z), some (.ref l), some (.int (c : Int)), some (.ref pf), some (.int (u : Int)), some (.int row.sum), some (.int (i : Int)), some (.int (z % row.sum)), some (.int ((if ppS row z < j then ppS row z else 0 : Nat) : Int)), x10, x11] ∧ Ex H5 H2) (fun H6 e6 => ⟨x10, rfl, e6⟩) ?_ ?_
      · rintro j σ2 H2' hj ⟨x10, rfl, ex2⟩
        have hjn : j < n := by omega
        have hsw2 := ex_l ex2 hsw5
        have hb : (decide ((row.take j).sum ≤ z % row.sum) && decide (z % row.sum < (row.take (j + 1)).sum)) = decide (ppS row z = j) := by
          by_cases e : ppS row z = j
          · rw [e] at g2 g3
            rw [decide_eq_true g2, decide_eq_true g3, decide_eq_true e]
            rfl
          · rw [decide_eq_false e]
            by_cases u1 : (row.take j).sum ≤ z % row.sum
            · by_cases u2 : z % row.sum < (row.take (j + 1)).sum
              · exact absurd (symAt_uniq row _ j hro.2.1 (by rw [hro.1]; exact hjn) u1 u2) e
              · rw [decide_eq_false u2, Bool.and_false]
            · rw [decide_eq_false u1, Bool.false_and]
        refine s_ifAsg (v := .int ((if ppS row z < j + 1 then ppS row z else 0 : Nat) : Int)) (b := decide (ppS row z = j)) (et_is (et_test (ev_chain (b1 := decide ((row.take j).sum ≤ z % row.sum)) (b2 := decide (z % row.sum < (row.take (j + 1)).sum)) (ev_sumL (ns := row.take j) (by rw [List.map_take, ← cutV_to]; exact el_sl (ev_var rfl) eo_none (eo_some (ev_var rfl)) hsw2)) (ev_var rfl) rv_I0 (fun _ => ev_sumL (ns := row.take (j + 1)) (by rw [List.map_take, ← cutV_to]; exact el_sl (ev_var rfl) eo_none (eo_some (ev_is (ev_add (ev_var (v := .int (j : Int)) rfl) ev_c) (by push_cast; rfl))) hsw2)) (fun _ => rv_I0))) hb) (fun hb2 => ?_) (fun hb2 => ?_) fun H6 e6 => ⟨_, rfl, ex2.trans e6⟩
        · have e : ppS row z = j := of_decide_eq_true hb2
          have el : ppS row z < j + 1 := by omega
          rw [if_pos el, e]
          exact ev_var rfl
        · have e : ¬ ppS row z = j := of_decide_eq_false hb2
          by_cases u1 : ppS row z < j
          · rw [if_pos u1, if_pos (by omega)]
            rfl
          · rw [if_neg u1, if_neg (by omega)]
            rfl
      · rintro σ2 H6 ⟨x10, rfl, ex2⟩
        rw [Int.toNat_natCast, if_pos s2]
        have hpf6 := ((e4.trans e5).trans ex2) _ _ hpf
        have e06 := e05.trans ex2
        refine q_app hpf6 (ev_var rfl) (ev_var (v := .int (ppS row z : Int)) rfl) (by rw [List.length_map]; omega) fun H7 e7 => ?_
        have e67 : ∀ b o, b ≠ pf → H6 b = some o → (upd H7 pf (.lst (natV acc ++ [.int (ppS row z : Int)]))) b = some o := fun b o hb ho => by
          rw [upd_ne hb]
          exact e7 _ _ ho
        have npf0 : H pf = none := npf
        have ex7 : Ex H (upd H7 pf (.lst (natV acc ++ [.int (ppS row z : Int)]))) := Ex.mut (e06.trans e7) npf0
        have hacc : natV acc ++ [.int (ppS row z : Int)] = natV (acc ++ [ppS row z]) := by simp [natV]
        rw [hacc] at ex7 ⊢
        have hpf7 : upd H7 pf (.lst (natV (acc ++ [ppS row z]))) pf = some (.lst (natV (acc ++ [ppS row z]))) := upd_same
        generalize upd H7 pf (.lst (natV (acc ++ [ppS row z]))) = H8 at ex7 hpf7 ⊢
        refine q_asg (v := .int (ppR row z)) (ev_sub (ev_add (ev_op (ev_op (ev_var (v := .ref lw) rfl) (ev_var (v := .int (ppS row z : Int)) rfl) (rv_ixL (ex_l ex7 hsw) (atI_at rfl (by rw [hro.1]; exact s2)))) (ev_op (ev_var (v := .int z) rfl) (ev_var (v := .int row.sum) rfl) (rv_div (by omega) (by omega))) (rv_mul (by omega))) (ev_var rfl)) (ev_sumL (ns := row.take (ppS row z)) (by rw [List.map_take, ← cutV_to]; exact el_sl (ev_var rfl) eo_none (eo_some (ev_var rfl)) (ex_l ex7 hsw)))) fun H9 e9 => ?_
        refine s_forR1 (n := 3) (ea1 ev_c) ⟨by decide, by decide⟩ (fun t σ2 H2 => ∃ (x : Int) (v : Nat) (x11 : Option V), σ2 = [some (.ref lw), some (.int x), some (.ref l), some (.int (c : Int)), some (.ref pf), some (.int (v : Int)), some (.int row.sum), some (.int (i : Int)), some (.int (z % row.sum)), some (.int (ppS row z : Int)), x10, x11] ∧ Ex H8 H2 ∧ rf ws 3 (ppR row z) u = rf ws (3 - t) x v ∧ 1 ≤ x)
          (fun H10 e10 => ⟨ppR row z, u, x11, rfl, e9.trans e10, rfl, s1⟩) ?_ ?_
        · rintro t σ2 H2' htt ⟨x, v, x11, rfl, ex3, hrf, hx1⟩
          have h3t : 3 - t = (3 - (t + 1)) + 1 := by omega
          rw [h3t, rf_succ ws (3 - (t + 1)) x v] at hrf
          have e08 := ex7.trans ex3
          refine s_when (et_test (ev_op (ev_var (v := .int x) rfl) ev_c rv_I0)) (fun hb H10 e10 => ?_) (fun hb H10 e10 => ?_)
          · have hlt := of_decide_eq_true hb
            rw [if_pos hlt] at hrf
            refine q_when (et_test (ev_op (ev_var (v := .int (v : Int)) rfl) (ev_is (ev_len (K := K) (ev_var rfl) (ex_l (e08.trans e10) hs)) (by rw [List.length_map])) rv_I0)) (fun hb2 H11 e11 => ?_) (fun hb2 H11 e11 => ?_)
            · have hge := of_decide_eq_true hb2
              rw [if_pos (by omega)] at hrf
              rw [hrf] at hup
              have hup2 : upw row ws c y 0 [] = none := hup
              rw [hup2] at q
              refine s_ret2 (ev_c (v := .str "Truncated")) (ev_is (ev_len (K := K) (ev_var rfl) (ex_l ((e08.trans e10).trans e11) hs)) (by rw [List.length_map])) fun tt H12 nt e12 htt => q _ H12 (((e08.trans e10).trans e11).trans e12) (.tup (st_of htt) (.cons (.str _) (.cons (.int _) .nil)))
            · have hlt2 := of_decide_eq_false hb2
              have hvl : v < ws.length := by omega
              rw [if_neg (by omega)] at hrf
              have hw : 0 ≤ ws.getD v 0 := by
                rw [List.getD_eq_getElem?_getD, List.getElem?_eq_getElem hvl]
                exact h0 _ (List.getElem_mem hvl)
              refine q_asg (v := .int (x * 256 + ws.getD v 0)) (ev_add (ev_op (ev_var (v := .int x) rfl) (ev_c (v := .int 256)) (rv_mul (by omega))) (ev_op (ev_var (v := .ref l) rfl) (ev_var (v := .int (v : Int)) rfl) (rv_ixL (ex_l ((e08.trans e10).trans e11) hs) (atI_at rfl hvl)))) fun H12 e12 => ?_
              exact s_asg (v := .int ((v + 1 : Nat) : Int)) (ev_is (ev_add (ev_var (v := .int (v : Int)) rfl) ev_c) (by push_cast; rfl)) fun H13 e13 => ⟨_, v + 1, _, rfl, (((ex3.trans e10).trans e11).trans e12).trans e13, hrf, by omega⟩
          · have hge := of_decide_eq_false hb
            rw [if_neg hge] at hrf
            exact ⟨x, v, _, rfl, ex3.trans e10, by rw [hrf, rf_big (ws := ws) (x := x) (u := v) (by omega) (3 - (t + 1))], hx1⟩
        · rintro σ2 H10 ⟨x, v, x11, rfl, ex3, hrf, hx1⟩
          have h30 : 3 - ((3 : Int)).toNat = 0 := rfl
          rw [h30] at hrf
          have hrf2 : rf ws 3 (ppR row z) u = some (x, v) := hrf
          rw [hrf2] at hup
          exact ⟨x, v, acc ++ [ppS row z], _, _, _, _, _, rfl, ex7.trans ex3, ex3 _ _ hpf7, by simp [hai], rf_three h0 s1 hrf2, hup⟩
    · rintro σ' H' ⟨z, u, acc, x7, x8, x9, x10, x11, rfl, ex, hpf, hai, hz, hup⟩
      rw [Int.toNat_natCast, Nat.sub_self] at hup
      have hup2 : upw row ws c y 0 [] = some (acc, z, u) := hup
      rw [hup2] at q
      exact s_ret3 (x := .ref pf) (ev_var rfl) (ev_var rfl) (ev_var rfl) fun t H4 nt e4 ht => q _ H4 (ex.trans e4) (.tup (st_of ht) (.cons (natsD_dp (sq_of (e4 _ _ hpf))) (.cons (.int _) (.cons (.int _) .nil))))
def spTold (K : PySem.W.Frag) (Cl : Nat → Addr) : Sp := fun vs H Q _ => ∃ (p l : Addr) (m : Md) (F : Addr → Prop) (n c : Nat) (y : Int) (ws : List Int), vs = [.ref p, .int y, .ref l, .int (c : Int)] ∧ MAt Cl H p m F ∧ Ok n m ∧ Tot n m.row ∧ 65536 ≤ y ∧ SqL K H l (ws.map V.int) ∧ (∀ w ∈ ws, 0 ≤ w) ∧ ws.length ≤ 10000 ∧ c ≤ 1000 ∧ RetD K (resU ws.length (upw m.row ws c y 0 [])) H Q
theorem s_caughtP {a C d : Addr} {nm st : Str} {i : Int} {j : Nat} (hσ : σ[j]? = some (some (.ref a))) (hd : H d = some (.xd (flds nm i))) (q : RetT [.str st, .int i] H D.rt) : tRet (tTup (tCons (tC (.str st)) (tCons (tXf a (.ref C) (some d) C "place" (tVar j)) tNil))) D σ H :=
  ⟨_, hσ, rfl, rfl, d, _, _, rfl, hd, rfl, by show 2 ≤ sizeLine; decide, fun p hp => q p _ hp (Ex.new hp) upd_same⟩
theorem ok_told {f : Addr} {fd : FuncData} {k : Nat} (Fn : Fun K "_law_told" "_law_told" s_law_told f fd) (MG_Truncated : mg "Truncated" = some (.ref CT)) (EK_Truncated : ErrK K CT "Truncated") (x1 : PySem.W.exmOne K (.ref CT) (.ref CT) = some true)
    (C_unpack_words : CalX P w K mg base "unpack_words" 6 ["model", "state", "words", "count"] (spUnpackW K Cl CT)) : FnOk P w K mg base CX0 (k + 7) f fd ["model", "state", "words", "count"] (spTold K Cl) := by
  have XF_Truncated : XfC K CT := ⟨EK_Truncated.ec.hg, EK_Truncated.ec.hk, EK_Truncated.ec.hs, EK_Truncated.ec.hd⟩
  refine Fn.ok sc_law_told (fun vs H Q E h => ?_) (fun cdv A outer s H vs Q E hr h => ?_)
  · obtain ⟨p, l, m, F, n, c, y, ws, rfl, _⟩ := h
    rfl
  · obtain ⟨p, l, m, F, n, c, y, ws, rfl, hm, hok, ht, hy, hs, h0, hwl, hc, q⟩ := h
    refine ⟨_, pss_one (ps_try_all rfl rfl sc_law_told.nd (fun W pn xe tk _ => (pss_one (ps_ret (pe_callXS C_unpack_words (hr.mono (by omega)) (by rfl) (fun σ => L2.passAt tk σ) (pa_cons (pv 0) (pa_cons (pv 1) (pa_cons (pv 2) (pa_cons (pv 3) pa_nil)))))))) (.cons (i := 4) ⟨rfl, by decide, Or.inl MG_Truncated⟩ rfl rfl (fun a oe cls d pn hz hf => (pss_one (ps_ret (pe_tup (pa_cons pe_str (pa_cons (pe_xf XF_Truncated EK_Truncated.f1 hz hf (pv 4)) pa_nil)))))) .nil)), ?_⟩
    refine s_retXS (vs := [.ref p, .int y, .ref l, .int (c : Int)]) (ea_cons (ev_var rfl) (ea3 (ev_var rfl) (ev_var rfl) (ev_var rfl))) fun H1 e1 => ⟨p, l, m, F, n, c, y, ws, rfl, hm.ext e1, hok, ht, hy, ex_l e1 hs, h0, hwl, hc, ?_⟩
    cases hu : upw m.row ws c y 0 [] with
    | none =>
      rw [hu] at q
      exact fun dx H2 hd e2 h2 => ⟨true, x1, (fun _ x hx => s_caughtP rfl h2 fun tt H3 nt e3 htt => q _ H3 ((e1.trans e2).trans e3) (.tup (st_of htt) (.cons (.str _) (.cons (.int _) .nil)))), fun z => by cases z⟩
    | some r0 =>
      obtain ⟨msg, z, v⟩ := r0
      rw [hu] at q
      exact fun b t H2 nb nt e2 hb ht => q _ H2 (e1.trans e2) (.tup (st_of ht) (.cons (natsD_dp (sq_of hb)) (.cons (.int _) (.cons (.int _) .nil))))
end
end K13
set_option Elab.async false
set_option linter.all false
set_option maxRecDepth 100000
set_option maxHeartbeats 4000000
namespace K13
open PySem PySem.Spec PyProof.Rows L2 StX GX KC Evl M08 M09 M10 M01 M12 M13 KX KQ
theorem nrm_nn (e : Int) : ∀ (f : Nat) (x : Int), ∀ w ∈ (nrm e f x).1, 0 ≤ w
  | 0, _, w, h => absurd h List.not_mem_nil
  | f + 1, x, w, h => by
    rw [nrm_succ] at h
    split at h
    · rcases List.mem_cons.mp h with y | y
      · omega
      · exact nrm_nn e f _ w y
    · exact absurd h List.not_mem_nil
theorem pkw_nn (row : List Int) : ∀ (msg : List Nat), ∀ w ∈ (pkw row msg).2, 0 ≤ w
  | [], w, h => absurd h List.not_mem_nil
  | s :: r, w, h => by
    have h2 : w ∈ (nrm (endOf row s) 4 (pkw row r).1).1.reverse ++ (pkw row r).2 := h
    rcases List.mem_append.mp h2 with y | y
    · exact nrm_nn _ _ _ w (List.mem_reverse.mp y)
    · exact pkw_nn row r w y
def presL (row : List Int) : List Nat := (List.range row.length).filter fun k => decide (row.getD k 0 > 0)
theorem pres_mem {row : List Int} {k : Nat} : k ∈ presL row ↔ k < row.length ∧ 0 < row.getD k 0 := by
  unfold presL
  rw [List.mem_filter, List.mem_range, decide_eq_true_eq]
theorem pres_ne {n : Nat} {row : List Int} (h : RowOk n row) : presL row ≠ [] := fun z => by
  have key : ∀ k, k < row.length → row.getD k 0 ≤ 0 := fun k hk => by
    by_cases y : 0 < row.getD k 0
    · have := pres_mem.mpr ⟨hk, y⟩
      rw [z] at this
      exact absurd this List.not_mem_nil
    · omega
  have hz : ∀ l : List Int, (∀ k, k < l.length → l.getD k 0 ≤ 0) → l.sum ≤ 0 := fun l => by
    induction l with
    | nil => intro _; exact Int.le_refl 0
    | cons a r ih =>
      intro h
      have h0 := h 0 (by simp)
      have h1 := ih fun k hk => by
        have := h (k + 1) (by simp; omega)
        simpa using this
      rw [List.sum_cons]
      have : a ≤ 0 := by simpa using h0
      omega
  have := hz row key
  have := h.2.2
  omega
section
variable {P : Program} {w : World} {K : PySem.W.Frag} {mg : Str → Option Value} {base : Heap} {Cl : Nat → Addr} {σ : L2.St} {H H' : Hp} {p d R r : Addr} {rs : List Addr} {m : Md} {n : Nat} {F : Addr → Prop} {ta tb tc td te : TE} {D : Ends} {tz : TS} {CT : Addr} {t1 t2 t3 : Tok}
theorem ed_call4L {sp : Sp} {E : XK} {x y z : V} {xs : List V} {dd : PyData} (h1 : Ev ta σ H x) (h2 : Ev tb σ H y) (h3 : EvL tc σ H xs) (h4 : Ev td σ H z) (hs : ∀ r H1, Ex H H1 → H1 r = some (.lst xs) → SpD K sp [x, y, .ref r, z] H1 dd) : EvD K (tCall sp [] E (tCons ta (tCons tb (tCons tc (tCons td tNil))))) σ H dd := fun H1 e Q q =>
  h1 H1 e _ fun H2 e2 => h2 H2 (e.trans e2) _ fun H3 e3 => h3 H3 ((e.trans e2).trans e3) _ fun r H4 _ e4 hr => h4 H4 (((e.trans e2).trans e3).trans e4) _ fun H5 e5 => hs r H5 ((((e.trans e2).trans e3).trans e4).trans e5) (e5 _ _ hr) H5 (Ex.refl _) Q (fun v H6 e6 hv => q v H6 ((((e2.trans e3).trans e4).trans e5).trans e6) hv) E
theorem sp_told {l : Addr} {c : Nat} {y : Int} {ws : List Int} {z : Int} (hm : MAt Cl H p m F) (hok : Ok n m) (ht : Tot n m.row) (hy : 65536 ≤ y) (hs : SqL K H l (ws.map V.int)) (h0 : ∀ w ∈ ws, 0 ≤ w) (hl : ws.length ≤ 10000) (ez : z = (c : Int)) (hc : c ≤ 1000) : SpD K (spTold K Cl) [.ref p, .int y, .ref l, .int z] H (resU ws.length (upw m.row ws c y 0 [])) := fun H1 e1 Q q E => ⟨p, l, m, F, n, c, y, ws, by rw [ez], hm.ext e1, hok, ht, hy, ex_l e1 hs, h0, hl, hc, q⟩
def spLaw (K : PySem.W.Frag) : Sp := fun vs H Q _ => ∃ (a : Addr) (ns : List Int), vs = [.ref a] ∧ SqL K H a (ns.map V.int) ∧ ns.length ≤ 63 ∧ ∀ H2, Q (.bl true) H2
theorem ok_law {f : Addr} {fd : FuncData} {k : Nat} (Fn : Fun K "law" "law" s_law f fd) (B : Bs mg) (C_law_cell : Cal P w K mg base "_law_cell" 1 ["script", "k"] (spCell K)) (C_law_weights : Cal P w K mg base "_law_weights" 2 ["script"] (spWeights K)) (N_Counts : CalM P w K mg base "Counts" (Cl 0) 1 ["self", "weights"] (spInitC K Cl))
    (C_pack_words : Cal P w K mg base "pack_words" 7 ["model", "message"] (spPackW K Cl)) (C_law_packed : Cal P w K mg base "_law_packed" 1 ["weights", "message"] (spLPackedW K)) (C_law_told : Cal P w K mg base "_law_told" 7 ["model", "state", "words", "count"] (spTold K Cl)) (C_law_unpacked : Cal P w K mg base "_law_unpacked" 1 ["weights", "state", "words", "count"] (spLUnpacked K)) :
    FnOk P w K mg base CX0 (k + 8) f fd ["script"] (spLaw K) := by
  refine Fn.ok sc_law (fun vs H Q E h => ?_) (fun cdv A outer s H vs Q E hr h => ?_)
  · obtain ⟨a, ns, rfl, _⟩ := h
    rfl
  · obtain ⟨a, ns, rfl, hs, hn63, q⟩ := h
    have hu64 : (A.deeper (envOfC "law" (defScope s_law) s.heap.objs.size f cdv)).units + 64 < cLine := by
      have := hr.un
      omega
    refine ⟨_, (pss_cons (ps_set (i := 1) sc_law.nd rfl (Or.inr rfl) (pe_callC C_law_weights (hr.mono (by omega)) (by rfl) (pa_cons (pv 0) pa_nil)))
      (pss_cons (ps_set (i := 2) sc_law.nd rfl (Or.inl rfl) (pe_makeC N_Counts (hr.mono (by omega)) (by rfl) (pa_cons (pv 1) pa_nil)))
      (pss_cons (ps_set (i := 3) sc_law.nd rfl (Or.inr rfl) (pe_lc rfl sc_law.nd (pi_range1 (by rfl) B.range (pa_cons (pe_callB call_len_seq (by rfl) B.len PySem.boot_len (pa_cons (pv 1) pa_nil)) pa_nil)) (blkOk_by (own := [("k", 4)]) (N := ["script", "weights", "model", "present", "k", "message", "cell", "given", "found", "words", "behind", "fewer", "state", "count"]) (sc := defScope s_law) (by decide +kernel)) (fun _ _ _ _ _ => (pg_name (i := 4) sc_law.nd rfl (Or.inl rfl))) (fun _ _ _ _ _ => (pts_one (pt_cmpR op_gt (pe_ix (ix_listK (K := K) rfl) (pv 1) (pv 4) (fun _ _ => rfl)) pe_int (nomark _)))) (fun _ _ _ _ _ => (pv 4))))
      (pss_cons (ps_setLc (i := 5) rfl sc_law.nd rfl rfl (sw_true rfl rfl rfl (by decide +kernel)) (pi_list (pe_slice sl_list (pv 0) (po_some pe_int) (po_some pe_int))) (blkOk_by (own := [("cell", 6)]) (N := ["script", "weights", "model", "present", "k", "message", "cell", "given", "found", "words", "behind", "fewer", "state", "count"]) (sc := defScope s_law) (by decide +kernel)) (fun _ _ _ _ _ => (pg_name (i := 6) sc_law.nd rfl (Or.inl rfl))) (fun _ _ _ _ _ => pts_nil) (fun _ _ _ _ _ => (pe_ix (ix_listK (K := K) rfl) (pv 3) (pe_op op_mod (pe_callTy call_int1 (by rfl) B.int (by decide +kernel) (pa_cons (pv 6) pa_nil)) (pe_callB (len_seqK (K := K) rfl) (by rfl) B.len PySem.boot_len (pa_cons (pv 3) pa_nil))) (fun _ _ => rfl))))
      (pss_cons (ps_set (i := 7) sc_law.nd rfl (Or.inl rfl) (pe_callTy call_list_of (by rfl) B.list (by decide +kernel) (pa_cons (pv 5) pa_nil)))
      (pss_cons (ps_set (i := 8) sc_law.nd rfl (Or.inl rfl) (pe_callC C_pack_words (hr.mono (by omega)) (by rfl) (pa_cons (pv 2) (pa_cons (pv 7) pa_nil))))
      (pss_cons (ps_if (PW.pt (pw_or (pt_cmpR (op_neD hu64) (pv 7) (pv 5) (nomark _)) (pw_or (pt_cmpR (op_neD hu64) (pv 8) (pe_callC C_law_packed (hr.mono (by omega)) (by rfl) (pa_cons (pv 1) (pa_cons (pv 5) pa_nil))) (nomark _)) (pw_or1 (pt_not (pt_chain op_le op_lt pe_int (pe_ix ix_tup (pv 8) pe_int (fun _ _ => rfl)) pe_int)))))) (pss_one (ps_ret pe_bl)) pss_nil)
      (pss_cons (ps_set (i := 9) sc_law.nd rfl (Or.inl rfl) (pe_callTy call_list_of (by rfl) B.list (by decide +kernel) (pa_cons (pe_ix ix_tup (pv 8) pe_int (fun _ _ => rfl)) pa_nil)))
      (pss_cons (ps_setLc (i := 10) rfl sc_law.nd rfl rfl (sw_true rfl rfl rfl (by decide +kernel)) (pi_list (pe_slice sl_list (pv 0) (po_some pe_int) (po_some pe_int))) (blkOk_by (own := [("cell", 6)]) (N := ["script", "weights", "model", "present", "k", "message", "cell", "given", "found", "words", "behind", "fewer", "state", "count"]) (sc := defScope s_law) (by decide +kernel)) (fun _ _ _ _ _ => (pg_name (i := 6) sc_law.nd rfl (Or.inl rfl))) (fun _ _ _ _ _ => pts_nil) (fun _ _ _ _ _ => (pe_op op_mod (pe_callTy call_int1 (by rfl) B.int (by decide +kernel) (pa_cons (pv 6) pa_nil)) pe_int)))
      (pss_cons (ps_if (pt_cmpR (op_neD hu64) (pe_callC C_law_told (hr.mono (by omega)) (by rfl) (pa_cons (pv 2) (pa_cons (pe_ix ix_tup (pv 8) pe_int (fun _ _ => rfl)) (pa_cons (pe_op op_cat (pv 9) (pv 10)) (pa_cons (pe_callB call_len_seq (by rfl) B.len PySem.boot_len (pa_cons (pv 5) pa_nil)) pa_nil))))) (pe_tup (pa_cons (pv 5) (pa_cons pe_int (pa_cons (pe_callB call_len_seq (by rfl) B.len PySem.boot_len (pa_cons (pv 9) pa_nil)) pa_nil)))) (nomark _)) (pss_one (ps_ret pe_bl)) pss_nil)
      (pss_cons (ps_if (pt_cmpR (op_neD hu64) (pv 9) (pe_ix ix_tup (pv 8) pe_int (fun _ _ => rfl)) (nomark _)) (pss_one (ps_ret pe_bl)) pss_nil)
      (pss_cut (ps_if (pt_cmpR op_gt (pe_callB call_len_seq (by rfl) B.len PySem.boot_len (pa_cons (pv 9) pa_nil)) pe_int (nomark _)) (pss_cons (ps_set (i := 11) sc_law.nd rfl (Or.inl rfl) (pe_slice sl_list (pv 9) po_none (po_some (pe_op op_mod (pe_callC C_law_cell (hr.mono (by omega)) (by rfl) (pa_cons (pv 0) (pa_cons pe_int pa_nil))) (pe_callB call_len_seq (by rfl) B.len PySem.boot_len (pa_cons (pv 9) pa_nil))))))
      (pss_one (ps_if (pt_cmpR (op_neD hu64) (pe_callC C_law_told (hr.mono (by omega)) (by rfl) (pa_cons (pv 2) (pa_cons (pe_ix ix_tup (pv 8) pe_int (fun _ _ => rfl)) (pa_cons (pv 11) (pa_cons (pe_callB call_len_seq (by rfl) B.len PySem.boot_len (pa_cons (pv 5) pa_nil)) pa_nil))))) (pe_tup (pa_cons pe_str (pa_cons (pe_callB call_len_seq (by rfl) B.len PySem.boot_len (pa_cons (pv 11) pa_nil)) pa_nil))) (nomark _)) (pss_one (ps_ret pe_bl)) pss_nil))) pss_nil)
      (pss_cons (ps_set (i := 12) sc_law.nd rfl (Or.inl rfl) (pe_op op_add pe_int (pe_op op_mod (pe_callC C_law_cell (hr.mono (by omega)) (by rfl) (pa_cons (pv 0) (pa_cons pe_int pa_nil))) pe_int)))
      (pss_cons (ps_setLc (i := 9) rfl sc_law.nd rfl rfl (sw_true rfl rfl rfl (by decide +kernel)) (pi_list (pe_slice sl_list (pv 0) (po_some pe_int) (po_some pe_int))) (blkOk_by (own := [("cell", 6)]) (N := ["script", "weights", "model", "present", "k", "message", "cell", "given", "found", "words", "behind", "fewer", "state", "count"]) (sc := defScope s_law) (by decide +kernel)) (fun _ _ _ _ _ => (pg_name (i := 6) sc_law.nd rfl (Or.inl rfl))) (fun _ _ _ _ _ => pts_nil) (fun _ _ _ _ _ => (pe_op op_mod (pe_callTy call_int1 (by rfl) B.int (by decide +kernel) (pa_cons (pv 6) pa_nil)) pe_int)))
      (pss_cons (ps_set (i := 13) sc_law.nd rfl (Or.inl rfl) (pe_op op_mod (pe_op op_fdiv (pe_callC C_law_cell (hr.mono (by omega)) (by rfl) (pa_cons (pv 0) (pa_cons pe_int pa_nil))) pe_int) pe_int))
      (pss_one (ps_ret (pe_cmpR (op_eqD hu64) (pe_callC C_law_told (hr.mono (by omega)) (by rfl) (pa_cons (pv 2) (pa_cons (pv 12) (pa_cons (pe_callTy call_list_of (by rfl) B.list (by decide +kernel) (pa_cons (pv 9) pa_nil)) (pa_cons (pv 13) pa_nil))))) (pe_callC C_law_unpacked (hr.mono (by omega)) (by rfl) (pa_cons (pv 1) (pa_cons (pv 12) (pa_cons (pv 9) (pa_cons (pv 13) pa_nil))))) (nomark _))))))))))))))))))), ?_⟩
    refine q_asgP (R := fun v H' => ∃ p n row, v = .ref p ∧ n ≤ 6 ∧ Tot n row ∧ H' p = some (.lst (row.map V.int))) (KQ.ep_call (vs := [.ref a]) (ea1 (ev_var rfl)) fun H1 e1 Q q => ⟨a, ns, rfl, ex_l e1 hs, fun p H2 n row h6 ht np e2 hp => q _ H2 e2 ⟨p, n, row, rfl, h6, ht, hp⟩⟩) fun v H1 e1 ⟨pw, n, row, ev, hn6, ht, hpw⟩ => ?_
    subst ev
    obtain ⟨d, hd1, hd, hq, hle⟩ := ht.fact
    have hro := ht.ok
    have hpos := hro.2.2
    have h1n : 1 ≤ n := by
      rcases Nat.eq_zero_or_pos n with z | z
      · have := hro.1
        rw [z] at this
        rw [List.length_eq_zero_iff.mp this] at hpos
        exact absurd hpos (by decide)
      · exact z
    refine q_asgP (ep_counts (Cl := Cl) (ea1 (ev_var (v := .ref pw) rfl)) (sq_of hpw)) fun v H2 e2 ⟨pm, l2, ev, hc, n1, n2⟩ => ?_
    subst ev
    obtain ⟨m, hm, hrow⟩ : ∃ m : Md, (MAt Cl H2 pm m (fun b => b = pm ∨ b = l2) ∧ Ok n m) ∧ m.row = row := ⟨⟨0, [row], 0, 0, 0⟩, ⟨.inl ⟨rfl, row, l2, rfl, rfl, hc, rfl⟩, h1n, by omega, (fun r hr => by rw [List.mem_singleton.mp hr]; exact hro), Nat.zero_lt_one, (fun _ => rfl), (fun z => absurd (show (0 : Nat) = 2 from z) (by decide)), Int.le_refl 0, Nat.zero_le 2⟩, rfl⟩
    obtain ⟨hm2, hok⟩ := hm
    have hpw2 := e2 _ _ hpw
    have e02 := e1.trans e2
    -- present
    refine q_asgL (xs := natV (presL row)) ?_ fun pp H3 npp e3 hpp => ?_
    · have hg : natV (presL row) = given ((n : Nat) : Int).toNat (fun i => decide (row.getD i 0 > 0)) (fun i => .int (i : Int)) := by
        unfold given presL natV
        rw [hro.1, Int.toNat_natCast]
      rw [hg]
      refine el_lcR1 _ _ (ea1 (ev_is (ev_len (K := K) (ev_var (v := .ref pw) rfl) (sq_of hpw2)) (by rw [List.length_map, hro.1]))) ⟨by omega, by omega⟩ (fun x => rfl) (fun i H9 e9 hi => ?_) (fun i H9 e9 hi _ => ev_var rfl)
      exact et_test (ev_op (ev_op (ev_var (v := .ref pw) rfl) (ev_var (v := .int (i : Int)) rfl) (rv_ixL (sq_of (e9 _ _ hpw2)) (atI_at rfl (by rw [hro.1]; omega)))) ev_c rv_I0)
    have hpl := List.length_pos_iff.mpr (pres_ne hro)
    have hpl6 : (presL row).length ≤ 6 := by
      unfold presL
      have := List.length_filter_le (fun k => decide (row.getD k 0 > 0)) (List.range row.length)
      rw [List.length_range] at this
      have h5 := hro.1
      omega
    have hpk : ∀ x : Int, (presL row).getD (x % ((presL row).length : Int)).toNat 0 ∈ presL row := fun x => by
      have h1 := Int.emod_nonneg x (show ((presL row).length : Int) ≠ 0 by omega)
      have h2 := Int.emod_lt_of_pos x (show (0 : Int) < ((presL row).length : Int) by omega)
      rw [List.getD_eq_getElem?_getD, List.getElem?_eq_getElem (by omega)]
      exact List.getElem_mem _
    generalize hpr : presL row = pr at *
    obtain ⟨ys, hy1, hy2, _⟩ := cutV_ints ns (some 7) (some 47)
    obtain ⟨msg, hmsg⟩ : ∃ msg, msg = ys.map fun x : Int => pr.getD (x % (pr.length : Int)).toNat 0 := ⟨_, rfl⟩
    have hs3 := ex_l (e02.trans e3) hs
    refine q_asgL (xs := natV msg) ?_ fun p0 H4 np0 e4 h4 => ?_
    · have e : natV msg = (ys.map fun x : Int => ((pr.getD (x % (pr.length : Int)).toNat 0 : Nat) : Int)).map V.int := by
        rw [hmsg, natV, List.map_map, List.map_map]
        rfl
      rw [e]
      refine el_lcMap _ (by rw [← hy1]; exact el_sl (ev_var rfl) (eo_some ev_c) (eo_some ev_c) hs3) (by omega) (fun x => rfl) fun x H9 hx e9 => ?_
      have h1 := Int.emod_nonneg x (show (pr.length : Int) ≠ 0 by omega)
      have h2 := Int.emod_lt_of_pos x (show (0 : Int) < (pr.length : Int) by omega)
      refine ev_op (ev_var (v := .ref pp) rfl) (ev_op (ev_cb (ea1 (ev_var (v := .int x) rfl)) rc_int) (ev_is (ev_len (K := K) (ev_var (v := .ref pp) rfl) (sq_of (e9 _ _ hpp))) (by rw [List.length_map])) (rv_mod (by omega))) (rv_ixL (sq_of (e9 _ _ hpp)) (at_of (j := (x % (pr.length : Int)).toNat) (by omega) ?_))
      rw [List.getElem?_map, List.getElem?_eq_getElem (by omega), List.getD_eq_getElem?_getD, List.getElem?_eq_getElem (by omega)]
      rfl
    have hmn : ∀ s ∈ msg, s < n ∧ 1 ≤ row.getD s 0 := fun s hs => by
      rw [hmsg] at hs
      obtain ⟨x, _, rfl⟩ := List.mem_map.mp hs
      have := hpk x
      rw [← hpr] at this
      have := pres_mem.mp this
      rw [hpr, hro.1] at this
      exact ⟨this.1, by omega⟩
    have hml : msg.length ≤ 63 := by rw [hmsg, List.length_map]; omega
    clear hmsg
    obtain ⟨b1, b2, b3⟩ := pkw_bd ht msg hmn
    have hnn := pkw_nn row msg
    have hup := fun rest => upw_pkw (ws := (pkw row msg).2 ++ rest) ht msg 0 [] rest hmn rfl
    simp only [List.nil_append, Nat.zero_add] at hup
    have htm : Tot n m.row := by rw [hrow]; exact ht
    refine q_asgL (el_listOf (ev_var rfl) (sq_of h4)) fun pg H5 npg e5 h5 => ?_
    have hm5 := hm2.ext ((e3.trans e4).trans e5)
    refine q_asgP (R := fun v H' => ∃ t b, v = .ref t ∧ H' b = some (.lst ((pkw row msg).2.map V.int)) ∧ H' t = some (.tup [.int (pkw row msg).1, .ref b])) (KQ.ep_call (vs := [.ref pm, .ref pg]) (ea2 (ev_var rfl) (ev_var rfl)) fun H6 e6 Q q => ⟨pm, pg, m, _, n, msg, rfl, hm5.ext e6, hok, htm, sq_of (e6 _ _ h5), by rw [hrow]; exact hmn, by omega, fun b t H7 nb nt e7 hb ht => q _ H7 e7 ⟨t, b, rfl, by rw [hrow] at hb; exact hb, by rw [hrow] at ht; exact ht⟩⟩) fun v H6 e6 ⟨pt, pb, ev, hb6, ht6⟩ => ?_
    subst ev
    have hm6 := hm5.ext e6
    have h46 := (e5.trans e6) _ _ h4
    have h56 := e6 _ _ h5
    have hpw6 := (((e3.trans e4).trans e5).trans e6) _ _ hpw2
    generalize hst : (pkw row msg).1 = st at *
    generalize hws : (pkw row msg).2 = W at *
    have f0 : ∀ {σ : L2.St} {H : Hp}, Ex H6 H → σ[8]? = some (some (.ref pt)) → Ev (tOp (rIxT K) (tVar 8) (tC (.int 0))) σ H (.int st) ∧ Ev (tOp (rIxT K) (tVar 8) (tC (.int 1))) σ H (.ref pb) := fun e h => ⟨ev_op (ev_var h) ev_c (rv_ixT (st_of (e _ _ ht6)) (atI_nat (j := 0) rfl)), ev_op (ev_var h) ev_c (rv_ixT (st_of (e _ _ ht6)) (atI_nat (j := 1) rfl))⟩
    refine q_when (b := false) (et_is (et_or (a := false) (et_is (et_test (ev_neD (K := K) (ed_at (ev_var rfl) (natsD_dp (sq_of h56))) (ed_at (ev_var rfl) (natsD_dp (sq_of h46))) (shaped_ints _) (shaped_ints _))) (by rw [(natsD_ok msg).2.2]; rfl)) fun _ => et_or (a := false) (b := false) (et_is (et_test (ev_neD (K := K) (d := wsD st W) (d2 := wsD st W) (ed_at (ev_var rfl) (.tup (st_of ht6) (.cons (.int _) (.cons (dp_listI (sq_of hb6)) .nil)))) (ed_call (vs := [.ref pw, .ref p0]) (ea2 (ev_var rfl) (ev_var rfl)) fun H7 e7 Q q E => ⟨pw, p0, n, row, msg, rfl, sq_of (e7 _ _ hpw6), sq_of (e7 _ _ h46), ht, hmn, by omega, fun b t H8 nt e8 hb ht => q _ H8 e8 (by rw [hst] at ht; rw [hws] at hb; exact .tup (st_of ht) (.cons (.int _) (.cons (dp_listI (sq_of hb)) .nil)))⟩) (wsD_shaped _ _) (wsD_shaped _ _))) (by rw [wsD_eqv]; rfl)) fun _ => et_is (et_not (et_test (ev_chain (b1 := true) (b2 := true) ev_c (f0 (Ex.refl _) rfl).1 (rv_val fun H1 _ Q q => ⟨_, _, rfl, rfl, by show Q (.bl (decide (65536 ≤ st))) H1; rw [decide_eq_true b1]; exact q⟩) (fun _ => ev_c) (fun _ => rv_val fun H1 _ Q q => ⟨_, _, rfl, rfl, by show Q (.bl (decide (st < 16777216))) H1; rw [decide_eq_true b2]; exact q⟩)))) rfl) rfl) (fun z => by cases z) fun _ H7 e7 => ?_
    have e67 := e7
    refine q_asgL (xs := W.map V.int) (el_listOf (f0 e7 rfl).2 (sq_of (e7 _ _ hb6))) fun pW H8 npW e8 hW8 => ?_
    have e68 := e7.trans e8
    have bitsOf : ∀ {H9 : Hp} {σ : L2.St} {lo hi : Int} {j : Nat} {vs : List Nat}, Ex H H9 → σ[0]? = some (some (.ref a)) → (∀ x, wipe ((wipe σ vs).set j (some x)) vs = wipe σ vs) → (∀ x, ((wipe σ vs).set j (some x))[j]? = some (some x)) → ∃ ys : List Int, (∀ w ∈ ys, 0 ≤ w) ∧ ys.length ≤ 63 ∧
        EvL (tLc (iList K (tSl (rSlL K) (tVar 0) (tPart (tC (.int lo))) (tPart (tC (.int hi))))) (gName j) tYes (tOp (rI (fun _ j => 0 < j) fun i j => .int (i % j)) (tCB (fun xs H Q => (∃ i, xs = [.int i] ∧ Q (.int i) H) ∨ ∃ k, xs = [.bl k] ∧ Q (.int (if k then 1 else 0)) H) (tCons (tVar j) tNil)) (tC (.int 256))) vs) σ H9 (ys.map V.int) := fun {H9 σ lo hi j vs} e h0 hw hv => by
      obtain ⟨ys, hy1, hy2, _⟩ := cutV_ints ns (some lo) (some hi)
      refine ⟨ys.map fun x => x % 256, fun b hb => ?_, by rw [List.length_map]; omega, ?_⟩
      · obtain ⟨x, _, rfl⟩ := List.mem_map.mp hb
        omega
      · refine el_lcMap (fun x => x % 256) ?_ (by omega) hw fun x H1 hx e1 => ev_op (ev_cb (ea1 (ev_var (v := .int x) (hv _))) rc_int) ev_c (rv_mod (by decide))
        rw [← hy1]
        exact el_sl (ev_var h0) (eo_some ev_c) (eo_some ev_c) (ex_l e hs)
    have e08 : Ex H H8 := ((((e02.trans e3).trans e4).trans e5).trans e6).trans e68
    obtain ⟨xs, hx0, hxl, hxs⟩ := bitsOf (σ := [some (.ref a), some (.ref pw), some (.ref pm), some (.ref pp), none, some (.ref p0), none, some (.ref pg), some (.ref pt), some (.ref pW), none, none, none, none]) (lo := 47) (hi := 50) (j := 6) (vs := [6]) e08 rfl (fun x => rfl) fun x => rfl
    refine q_asgL hxs fun px H9 npx e9 hx9 => ?_
    have e69 := e68.trans e9
    have hW9 := e9 _ _ hW8
    have hm9 := hm6.ext e69
    have h49 := e69 _ _ h46
    have hWl : W.length ≤ 300 := by omega
    have hlen0 : ∀ {H1 : Hp} {σ : L2.St}, Ex H9 H1 → σ[5]? = some (some (.ref p0)) → Ev (tCB (Evl.rLenS K) (tCons (tVar 5) tNil)) σ H1 (.int (msg.length : Int)) := fun e h => ev_is (ev_len (K := K) (ev_var h) (sq_of (e _ _ h49))) (by rw [List.length_map])
    have hlenW : ∀ {H1 : Hp} {σ : L2.St}, Ex H9 H1 → σ[9]? = some (some (.ref pW)) → Ev (tCB (Evl.rLenS K) (tCons (tVar 9) tNil)) σ H1 (.int (W.length : Int)) := fun e h => ev_is (ev_len (K := K) (ev_var h) (sq_of (e _ _ hW9))) (by rw [List.length_map])
    refine q_when (b := false) (et_is (et_test (ev_neD (K := K) (d := resU (W ++ xs).length (some (msg, 65536, W.length))) (d2 := resU (W ++ xs).length (some (msg, 65536, W.length))) (by
      have h := ed_call4L (K := K) (σ := [some (.ref a), some (.ref pw), some (.ref pm), some (.ref pp), none, some (.ref p0), none, some (.ref pg), some (.ref pt), some (.ref pW), some (.ref px), none, none, none]) (sp := spTold K Cl) (E := E0) (ta := tVar 2) (ev_var (v := .ref pm) rfl) (f0 e69 rfl).1 (el_cat2 (ta := tVar 9) (tb := tVar 10) (ev_var rfl) hW9 (ev_var rfl) hx9 (by rw [List.length_map, List.length_map]; omega)) (hlen0 (Ex.refl _) rfl) fun r H10 e10 hr => sp_told (ws := W ++ xs) (c := msg.length) (hm9.ext e10) hok htm b1 (sq_of (by rw [List.map_append]; exact hr)) (fun w hw => (List.mem_append.mp hw).elim (hnn w) (hx0 w)) (by rw [List.length_append]; omega) rfl (by omega)
      rw [hrow, hup xs] at h
      exact h) (ed_tup (eda_cons (ed_at (ev_var rfl) (natsD_dp (sq_of h49))) (eda_cons (ed_int ev_c) (eda_cons (ed_int (hlenW (Ex.refl _) rfl)) eda_nil))) (by show 3 ≤ 100000; decide)) (resU_shaped _ _) (resU_shaped _ _))) (by rw [resU_eqv]; rfl)) (fun z => by cases z) fun _ H10 e10 => ?_
    have e610 := e69.trans e10
    have hW10 := e10 _ _ hW9
    refine q_when (b := false) (et_is (et_test (ev_neD (K := K) (ed_at (ev_var rfl) (dp_listI (sq_of hW10))) (ed_at (f0 e610 rfl).2 (dp_listI (sq_of (e610 _ _ hb6)))) (shaped_ints _) (shaped_ints _))) (by rw [eqv_ints]; rfl)) (fun z => by cases z) fun _ H11 e11 => ?_
    have e911 := e10.trans e11
    have e611 := e69.trans e911
    have e011 : Ex H H11 := (e08.trans e9).trans e911
    have cell : ∀ {σ : L2.St} {H9 : Hp} {j : Nat} {z : Int}, Ex H11 H9 → σ[0]? = some (some (.ref a)) → z = (j : Int) → Ev (tCall (spCell K) [] E0 (tCons (tVar 0) (tCons (tC (.int z)) tNil))) σ H9 (.int (cellOf ns j)) := fun e h0 ez => ev_call (vs := [.ref a, .int _]) (ea2 (ev_var h0) ev_c) (spv_cell (ex_l (e011.trans e) hs) ez)
    have hW11 := e911 _ _ hW9
    refine q_cut (M := fun σ' H' => ∃ y, Ex H11 H' ∧ σ' = [some (.ref a), some (.ref pw), some (.ref pm), some (.ref pp), none, some (.ref p0), none, some (.ref pg), some (.ref pt), some (.ref pW), some (.ref px), y, none, none]) ?_ ?_
    · refine s_when (b := decide (0 < W.length)) (et_is (et_test (ev_op (hlenW e911 rfl) ev_c rv_I0)) (decide_eq_decide.mpr (by omega))) (fun hb H12 e12 => ?_) (fun hb H12 e12 => ⟨_, e12, rfl⟩)
      have hWp : 0 < W.length := of_decide_eq_true hb
      obtain ⟨j, hj, hjl⟩ : ∃ j : Nat, cellOf ns 50 % (W.length : Int) = (j : Int) ∧ j < W.length := ⟨(cellOf ns 50 % (W.length : Int)).toNat, by have := Int.emod_nonneg (cellOf ns 50) (show (W.length : Int) ≠ 0 by omega); omega, by have := Int.emod_nonneg (cellOf ns 50) (show (W.length : Int) ≠ 0 by omega); have := Int.emod_lt_of_pos (cellOf ns 50) (show (0 : Int) < (W.length : Int) by omega); omega⟩
      have hW12 := e12 _ _ hW11
      refine q_asgL (xs := (W.take j).map V.int) (by
        rw [List.map_take, ← cutV_to]
        exact el_sl (ev_var rfl) eo_none (eo_some (ev_is (ev_op (cell (j := 50) e12 rfl rfl) (hlenW (e911.trans e12) rfl) (rv_mod (by omega))) (by rw [hj]))) (sq_of hW12)) fun pF H13 npF e13 hF13 => ?_
      have hm13 := hm9.ext ((e911.trans e12).trans e13)
      have htk : (W.take j).length = j := by rw [List.length_take]; omega
      have hno := upw_take (row := row) (ws := W) (j := j) (by omega) msg.length st 0 [] msg 65536 W.length (Nat.zero_le _) (by have := hup []; rwa [List.append_nil] at this) hjl
      refine s_when (b := false) (et_is (et_test (ev_neD (K := K) (d := resU (W.take j).length none) (d2 := resU (W.take j).length none) (by
        have h := ed_call (K := K) (σ := [some (.ref a), some (.ref pw), some (.ref pm), some (.ref pp), none, some (.ref p0), none, some (.ref pg), some (.ref pt), some (.ref pW), some (.ref px), some (.ref pF), none, none]) (H := H13) (sp := spTold K Cl) (dvs := []) (E := E0) (vs := [.ref pm, .int st, .ref pF, .int (msg.length : Int)]) (ea_cons (ta := tVar 2) (ev_var rfl) (ea3 (f0 ((e611.trans e12).trans e13) rfl).1 (ev_var (i := 11) rfl) (hlen0 ((e911.trans e12).trans e13) rfl))) (sp_told (ws := W.take j) (c := msg.length) hm13 hok htm b1 (sq_of hF13) (fun w hw => hnn w (List.mem_of_mem_take hw)) (by omega) rfl (by omega))
        rw [hrow, hno] at h
        exact h) (by
        refine fun H14 e14 Q q => (eu_tup (vs := [.str "Truncated", .int ((W.take j).length : Int)]) (ea2 ev_c (ev_is (ev_len (K := K) (ev_var rfl) (sq_of hF13)) (by rw [List.length_map]))) (by show 2 ≤ 100000; decide)) H14 e14 Q fun t H15 nt e15 ht => q _ H15 e15 (.tup (st_of ht) (.cons (.str _) (.cons (.int _) .nil)))) (resU_shaped _ _) (resU_shaped _ _))) (by rw [resU_eqv]; rfl)) (fun z => by cases z) fun _ H14 e14 => ⟨_, (e12.trans e13).trans e14, rfl⟩
    · rintro σ' H12 ⟨y, e12, rfl⟩
      have e012 := e011.trans e12
      obtain ⟨z, hz, hz1⟩ : ∃ z : Int, 65536 + cellOf ns 51 % 16711680 = z ∧ 65536 ≤ z := ⟨65536 + cellOf ns 51 % 16711680, rfl, by omega⟩
      refine q_asg (v := .int z) (ev_is (ev_add ev_c (ev_op (cell (j := 51) e12 rfl rfl) ev_c (rv_mod (by decide)))) (by rw [hz])) fun H13 e13 => ?_
      obtain ⟨us, hu0, hul, hus⟩ := bitsOf (σ := [some (.ref a), some (.ref pw), some (.ref pm), some (.ref pp), none, some (.ref p0), none, some (.ref pg), some (.ref pt), some (.ref pW), some (.ref px), y, some (.int z), none]) (lo := 52) (hi := 63) (j := 6) (vs := [6]) (e012.trans e13) rfl (fun x => rfl) fun x => rfl
      refine q_asgL hus fun pu H14 npu e14 hu14 => ?_
      obtain ⟨c, hc, hc30⟩ : ∃ c : Nat, cellOf ns 50 / 50 % 30 = (c : Int) ∧ c < 30 := ⟨(cellOf ns 50 / 50 % 30).toNat, by omega, by omega⟩
      refine q_asg (v := .int (c : Int)) (ev_is (ev_op (ev_op (cell (j := 50) ((e12.trans e13).trans e14) rfl rfl) ev_c (rv_div (by decide) (by decide))) ev_c (rv_mod (by decide))) (by rw [hc])) fun H15 e15 => ?_
      have hu15 := e15 _ _ hu14
      have e915 := (((e911.trans e12).trans e13).trans e14).trans e15
      have hm15 := hm9.ext e915
      have hpw15 := (e69.trans e915) _ _ hpw6
      refine s_ret (v := .bl true) (ev_is (ev_eqD (K := K) (d := resU us.length (upw row us c z 0 [])) (d2 := resU us.length (upw row us c z 0 [])) (by
        rw [← hrow]
        exact ed_call4L (K := K) (ev_var (v := .ref pm) rfl) (ev_var (v := .int z) rfl) (el_listOf (ev_var rfl) (sq_of hu15)) (ev_var (v := .int (c : Int)) rfl) fun r H16 e16 hr => sp_told (ws := us) (c := c) (hm15.ext e16) hok htm hz1 (sq_of hr) hu0 (by omega) rfl (by omega)) (ed_call (vs := [.ref pw, .int z, .ref pu, .int (c : Int)]) (ea_cons (ev_var rfl) (ea3 (ev_var rfl) (ev_var rfl) (ev_var rfl))) fun H16 e16 Q q E => ⟨pw, pu, n, c, z, row, us, rfl, sq_of (e16 _ _ hpw15), sq_of (e16 _ _ hu15), ht, by omega, hz1, hu0, by omega, by omega, q⟩) (resU_shaped _ _) (resU_shaped _ _)) (by rw [resU_eqv])) fun H16 _ => q H16
end
end K13
namespace K13
open PySem PySem.Spec PyProof.Rows L2 StX GX KC Evl M08 M09 M10 M01 M12 M13 KX KQ
section
variable {Cl : Nat → Addr} {i : Nat} {vs : List V} {H : Hp} {Q : VK} {E : XK}
theorem kd_no {p : Addr} {m : Md} {F : Addr → Prop} (h : MAt Cl H p m F) (k : m.kind = i + 1) : False := by
  rw [h.kd] at k
  omega
theorem no_size (h : spSize Cl (i + 1) vs H Q E) : False := by
  obtain ⟨p, m, F, n, _, k, hm, _⟩ := h
  exact kd_no hm k
theorem no_total (h : spTotal Cl (i + 1) vs H Q E) : False := by
  obtain ⟨p, m, F, n, _, k, hm, _⟩ := h
  exact kd_no hm k
theorem no_low (h : spLow Cl (i + 1) vs H Q E) : False := by
  obtain ⟨p, m, F, n, s, _, k, hm, _⟩ := h
  exact kd_no hm k
theorem no_weight (h : spWeight Cl (i + 1) vs H Q E) : False := by
  obtain ⟨p, m, F, n, s, _, k, hm, _⟩ := h
  exact kd_no hm k
theorem no_symbol_at (h : spSym Cl (i + 1) vs H Q E) : False := by
  obtain ⟨p, m, F, n, x, _, k, hm, _⟩ := h
  exact kd_no hm k
theorem no_learn (h : spLearn Cl (i + 1) vs H Q E) : False := by
  obtain ⟨p, m, F, n, s, _, k, hm, _⟩ := h
  exact kd_no hm k
theorem no_fresh (h : spFresh Cl (i + 1) vs H Q E) : False := by
  obtain ⟨p, m, F, n, _, k, hm, _⟩ := h
  exact kd_no hm k
end
end K13
set_option Elab.async false
set_option linter.all false
set_option maxRecDepth 100000
set_option maxHeartbeats 4000000
/-! The end of a law: the head's heap, the script, tables of code objects followed as TabX. -/
namespace KC
open PySem PySem.Spec PyProof.Rows L2 GX Evl
def tabO : Obj := { cls := .none, data := .fields #[] }
/-- tables that stand empty in h, out of the frozen part, of known code objects -/
structure Tbs (K : PySem.W.Frag) (h : Heap) (cs : List (Addr × Addr)) : Prop where
  emp : ∀ p ∈ cs, h.get? p.2 = some tabO
  out : ∀ p ∈ cs, K.lookup p.2 = none
  cod : ∀ p ∈ cs, PySem.W.CodeHd h p.1 p.2
structure Hd0 (K : PySem.W.Frag) (mg mb : Str → Option Value) (s : Shared) : Prop where
  kin : K.In s.heap
  glo : s.heap.Ns mainGlobals mg
  blt : s.heap.Ns builtinsNs mb
  boo : ∀ y : Str, y ≠ "__name__" → mb y = bootBuiltins y
  lim : s.heap.NoLimit
  gen : s.gens = #[]
  bmo : ∃ (bm : Addr) (o : Obj), mg "__builtins__" = some (.ref bm) ∧ bm ≠ builtinsNs ∧ s.heap.get? bm = some o ∧ o.cls = .type "module" ∧ o.dict = some builtinsNs ∧ o.data = .plain
/-- the start: the tables, and the script where it is not frozen -/
def H0 (cs : List (Addr × Addr)) (a : Addr) (u : Option HO) : Hp := fun b => if b ∈ cs.map Prod.snd then some (TabX b) else if b = a then u else none
theorem h0_tab {cs : List (Addr × Addr)} {a b : Addr} {u : Option HO} (m : b ∈ cs.map Prod.snd) : H0 cs a u b = some (TabX b) := if_pos m
theorem h0_a {cs : List (Addr × Addr)} {a : Addr} {u : Option HO} (m : a ∉ cs.map Prod.snd) : H0 cs a u a = u := (if_neg m).trans (if_pos rfl)
theorem h0_no {cs : List (Addr × Addr)} {a b : Addr} {u : Option HO} (m : b ∉ cs.map Prod.snd) (n : b ≠ a) : H0 cs a u b = none := (if_neg m).trans (if_neg n)
section
variable {P : Program} {w : World} {K : PySem.W.Frag} {mg mb : Str → Option Value} {CX : CXT} {s : Shared} {cs : List (Addr × Addr)} {a : Addr} {u : Option HO} {vs : List Value}
theorem Tbs.at_ {h : Heap} (T : Tbs K h cs) {b : Addr} (m : b ∈ cs.map Prod.snd) : h.get? b = some tabO := by
  obtain ⟨p, hp, rfl⟩ := List.mem_map.mp m
  exact T.emp p hp
/-- an object that is neither a list nor a table is not followed -/
theorem h0_free (T : Tbs K s.heap cs) (ha : s.heap.get? a = some { cls := .type "list", data := .seq vs.toArray }) {b : Addr} {o : Obj} (e : s.heap.get? b = some o) (d1 : ∀ xs k, o.data ≠ .seq xs k) (d2 : o.data ≠ .fields #[]) : H0 cs a u b = none := by
  refine h0_no (fun m => ?_) fun z => ?_
  · have q := T.at_ m
    rw [e] at q
    exact d2 (by rw [Option.some.inj q] <;> rfl)
  · subst z
    rw [e] at ha
    exact d1 _ _ (congrArg Obj.data (Option.some.inj ha))
theorem dict_free {o : Obj} {es : Array DictEntry} {ep : Nat} (d : o.data = .dict es ep) : (∀ xs k, o.data ≠ .seq xs k) ∧ o.data ≠ .fields #[] := by
  rw [d]
  exact ⟨fun _ _ z => (nomatch z), fun z => (nomatch z)⟩
theorem plain_free {o : Obj} (d : o.data = .plain) : (∀ xs k, o.data ≠ .seq xs k) ∧ o.data ≠ .fields #[] := by
  rw [d]
  exact ⟨fun _ _ z => (nomatch z), fun z => (nomatch z)⟩
/-- the ground under the law's def -/
structure Grd (P : Program) (w : World) (K : PySem.W.Frag) (mg : Str → Option Value) (cs : List (Addr × Addr)) (H : Hp) (s : Shared) : Prop where
  env : Env0 P w K mg (hidT s.heap H) callerA [] s H
  kin : K.In (hidT s.heap H)
  glo : (hidT s.heap H).Ns mainGlobals mg
  tab : ∀ p ∈ cs, GxR.TabB (hidT s.heap H) mg p.1 p.2
theorem grd_of (D : Hd0 K mg mb s) (T : Tbs K s.heap cs) (ha : s.heap.get? a = some { cls := .type "list", data := .seq vs.toArray }) (hu : u ≠ none → K.lookup a = none) (ok : HOk P w (H0 cs a u) s.heap) : Grd P w K mg cs (H0 cs a u) s := by
  have down : ∀ {b : Addr} {o : Obj}, s.heap.get? b = some o → (∀ xs k, o.data ≠ .seq xs k) ∧ o.data ≠ .fields #[] → (hidT s.heap (H0 cs a u)).get? b = some o := fun e d => hidT_get e (h0_free T ha e d.1 d.2)
  have ns : ∀ {b : Addr} {m : Str → Option Value}, s.heap.Ns b m → (hidT s.heap (H0 cs a u)).Ns b m := fun x => by
    obtain ⟨o, es, ep, e, d, r⟩ := x
    exact ⟨o, es, ep, down e (dict_free d), d, r⟩
  have kin : K.In (hidT s.heap (H0 cs a u)) := fun b o e => by
    refine hidT_get (D.kin b o e) ?_
    by_cases m : b ∈ cs.map Prod.snd
    · obtain ⟨p, hp, rfl⟩ := List.mem_map.mp m
      rw [T.out p hp] at e
      cases e
    · by_cases z : b = a
      · subst z
        rw [h0_a m]
        cases hu1 : u with
        | none => rfl
        | some v =>
          rw [hu (by rw [hu1]; exact Option.some_ne_none v)] at e
          cases e
      · exact h0_no m z
  refine ⟨⟨rfl, ⟨kin, ns D.glo, ⟨mb, ns D.blt, D.boo⟩, ?_⟩, fun b o e => of_hidT e, Nat.le_of_eq (hidT_size _ _), trivial, fun b hb => absurd (show b ∈ ([] : List Addr) from hb) List.not_mem_nil, ok, .of_eq D.gen⟩, kin, ns D.glo, fun p hp => ⟨?_, ?_, fun z => ?_⟩⟩
  · obtain ⟨mc, n1, n2⟩ := D.lim
    exact ⟨mc, ns n1, n2⟩
  · obtain ⟨o, us, f1, f2, f3, f4, f5, f6, f7, e, c1, c2, c3, rest⟩ := T.cod p hp
    refine ⟨o, us, f1, f2, f3, f4, f5, f6, f7, down e ?_, c1, c2, c3, rest⟩
    rw [c2]
    refine ⟨fun _ _ z => (nomatch z), fun z => ?_⟩
    have z' : us = #[] := by injection z
    rw [z'] at c3
    simp at c3
  · obtain ⟨bm, o, b1, b2, b3, b4, b5, b6⟩ := D.bmo
    have g1 : bm ≠ mainGlobals := fun z => by
      obtain ⟨og, es, ep, e, d, _⟩ := D.glo
      rw [← z, b3] at e
      rw [← Option.some.inj e, b6] at d
      cases d
    have g2 : bm ≠ p.2 := fun z => by
      have q := T.emp p hp
      rw [← z, b3] at q
      rw [Option.some.inj q] at b6
      cases b6
    exact ⟨bm, o, b1, b2, g1, g2, down b3 (plain_free b6), b4, b5, b6⟩
  · obtain ⟨og, es, ep, e, d, _⟩ := D.glo
    have q := T.emp p hp
    rw [← z, e] at q
    rw [Option.some.inj q] at d
    cases d
/-- the law is called with its script -/
theorem law_callX {k : Nat} {fa : Addr} {fd : FuncData} {x : Str} {sp : Sp} {ns : List Int} (D : Hd0 K mg mb s) (T : Tbs K s.heap cs) (ha : s.heap.get? a = some { cls := .type "list", data := .seq vs.toArray }) (hi : IntsAre vs ns) (hl : ns.length ≤ sizeLine) (hr : Room k callerA)
    (ok : ∀ base : Heap, K.In base → base.Ns mainGlobals mg → (∀ p ∈ cs, GxR.TabB base mg p.1 p.2) → FnOk P w K mg base CX k fa fd [x] sp) (bd : ∀ (s : Shared) (v : Value), BindsTo s fd ⟨[v], []⟩ [(x, v)])
    (hsp : ∀ H : Hp, (∀ p ∈ cs, H p.2 = some (TabX p.2)) → SqL K H a (ns.map V.int) → sp [.ref a] H (fun v H' => v = .bl true ∧ ∀ p ∈ cs, H' p.2 = some (TabX p.2)) fun _ _ _ => False)
    (hx : ∀ H e s', CX [] H s (fun _ _ _ => False) e s' → False) :
    codeAny (model P w) callerA (.call (.ref fa) ⟨[.ref a], []⟩) (fun r s' => r = .ok (.ret (.bool true)) ∧ OldK s.heap s'.heap ∧ s'.os = s.os ∧ AllBare s'.gens) s := by
  have rv := vals_ints hi
  have anot : a ∉ cs.map Prod.snd := fun m => by
    have q := T.at_ m
    rw [ha] at q
    have q2 := congrArg Obj.data (Option.some.inj q)
    cases q2
  have tabs : ∀ {u : Option HO}, ∀ p ∈ cs, H0 cs a u p.2 = some (TabX p.2) := fun p hp => h0_tab (List.mem_map.mpr ⟨p, hp, rfl⟩)
  -- whatever is followed of the script
  have go : ∀ u : Option HO, (u = none ∨ u = some (.frz { cls := .type "list", data := .seq vs.toArray } (.lst (ns.map V.int)))) → (u ≠ none → K.lookup a = none) → SqL K (H0 cs a u) a (ns.map V.int) →
      codeAny (model P w) callerA (.call (.ref fa) ⟨[.ref a], []⟩) (fun r s' => r = .ok (.ret (.bool true)) ∧ OldK s.heap s'.heap ∧ s'.os = s.os ∧ AllBare s'.gens) s := fun u hu hk hs => by
    have hok : HOk P w (H0 cs a u) s.heap := fun b o e => by
      by_cases m : b ∈ cs.map Prod.snd
      · rw [h0_tab m] at e
        cases e
        exact tabx_ok (T.at_ m) (show TriplesOk [] from trivial)
      · by_cases z : b = a
        · subst z
          rw [h0_a m] at e
          rcases hu with rfl | rfl
          · cases e
          · cases e
            exact ⟨ha, by rw [List.length_map]; exact hl, vs, 0, rv, ha⟩
        · rw [h0_no m z] at e
          cases e
    have G := grd_of (u := u) D T ha hk hok
    refine codeAny_mono ((ok _ G.kin G.glo G.tab).run callerA [] s _ ⟨[.ref a], []⟩ [.ref a] [.ref a] _ _ hr G.env (bd s (.ref a)) (.cons rfl .nil) (hsp _ tabs hs)) fun r s' h => ?_
    match r, h with
    | .error e, h => exact (hx _ e s' h).elim
    | .ok .next, h => exact False.elim h
    | .ok .brk, h => exact False.elim h
    | .ok .cont, h => exact False.elim h
    | .ok (.ret v0), h =>
      obtain ⟨v, H', os, bare, un, hok', r', q, qt⟩ := h
      subst q
      obtain rfl : v0 = Value.bool true := r'
      have same : ∀ b o, b ∉ cs.map Prod.snd → s.heap.get? b = some o → s'.heap.get? b = some o := fun b o m e => by
        by_cases z : b = a
        · subst z
          rcases hu with rfl | rfl
          · exact un.keep b o e (h0_a m) List.not_mem_nil List.not_mem_nil
          · have f2 := hok' b _ (un.frzs b _ _ (h0_a m))
            rw [ha] at e
            rw [← Option.some.inj e]
            exact f2.1
        · exact un.keep b o e (h0_no m z) List.not_mem_nil List.not_mem_nil
      have grew : ∀ p ∈ cs, ∃ more : Array Value, s'.heap.get? p.2 = some { cls := .none, data := .fields more } := fun p hp => by
        obtain ⟨⟨more, e, _⟩, _⟩ := hok' p.2 _ (qt p hp)
        exact ⟨more, e⟩
      refine ⟨rfl, ⟨fun b o e => ?_, fun b o e => ?_⟩, os, bare⟩
      · by_cases m : b ∈ cs.map Prod.snd
        · obtain ⟨p, hp, rfl⟩ := List.mem_map.mp m
          obtain ⟨more, g⟩ := grew p hp
          have eo : o = tabO := Option.some.inj (e.symm.trans (T.emp p hp))
          subst eo
          exact .inr (.inl ⟨((T.cod p hp).tab (ps := #[]) (T.emp p hp)).isCodeTable, rfl, #[], more, rfl, by rw [Array.empty_append]; exact g⟩)
        · exact .inl (same b o m e)
      · by_cases m : b ∈ cs.map Prod.snd
        · obtain ⟨p, hp, rfl⟩ := List.mem_map.mp m
          obtain ⟨more, g⟩ := grew p hp
          exact ⟨_, g⟩
        · exact ⟨o, same b o m e⟩
  cases hk : K.lookup a with
  | none => exact go _ (.inr rfl) (fun _ => hk) (.inl (.inr ⟨_, h0_a anot⟩))
  | some o =>
    have e := (D.kin a o hk).symm.trans ha
    have eo := Option.some.inj e
    subst eo
    exact go none (.inl rfl) (fun z => absurd rfl z) (.inr ⟨_, vs.toArray, _, hk, rfl, rfl, rfl, by rw [List.size_toArray, hi.length]; exact hl, by simpa using rv⟩)
end
/-- what the head's defs have: their code objects, with empty tables -/
def Rec0 (q : Program) (mg : Str → Option Value) (h : Heap) : Prop := ∀ d ∈ recsOf q, ∃ a o fd c P, mg d.name = some (.ref a) ∧ h.get? a = some o ∧ o.data = .func fd ∧ fd.code = .ref c ∧ h.IsCode c P #[] ∧ h.TableAt c P #[]
theorem tab_emp {q : Program} {mg : Str → Option Value} {h : Heap} {K : PySem.W.Frag} (R : Rec0 q mg h) (X : K.In h) {nm : Str} {f c Pt : Addr} {fd : FuncData} {e : Value} {dd : Option Addr} {sl : Array (Option Value)}
    (hrec : ((recsOf q).any fun e => e.name == nm) = true) (hm : mg nm = some (.ref f)) (hk : K.lookup f = some ⟨e, dd, .func fd, sl⟩) (hc : fd.code = .ref c) (C : PySem.W.CodeHd h c Pt) : h.get? Pt = some tabO := by
  obtain ⟨d, hd, hn⟩ := List.any_eq_true.mp hrec
  obtain ⟨f1, o1, fd1, c1, P1, e1, e2, e3, e4, _, ⟨⟨oc, vc, g1, _, g3, g4⟩, g5⟩⟩ := R d hd
  rw [beq_iff_eq.mp hn, hm] at e1
  have ef : f = f1 := Value.ref.inj (Option.some.inj e1)
  subst ef
  rw [X f _ hk] at e2
  have eo := Option.some.inj e2
  subst eo
  have efd : fd = fd1 := by injection e3
  subst efd
  rw [hc] at e4
  have ec : c = c1 := Value.ref.inj e4
  subst ec
  obtain ⟨o2, us, _, _, _, _, _, _, _, k1, _, k2, k3, _⟩ := C
  rw [k1] at g1
  have eo2 := Option.some.inj g1
  subst eo2
  rw [k2] at g3
  have eu : us = vc := by injection g3
  subst eu
  rw [k3] at g4
  have eP : Pt = P1 := Value.ref.inj (Option.some.inj g4)
  subst eP
  exact g5
def LawX (l : PySem.W.OpenLaw) (w : World) (K : PySem.W.Frag) (CX : CXT) (k n : Nat) (x : Str) (mg : Str → Option Value) (fa : Addr) (h : Heap) : Prop :=
  ∃ (fd : FuncData) (cs : List (Addr × Addr)) (sp : Sp), Tbs K h cs ∧ (∀ (s : Shared) (v : Value), BindsTo s fd ⟨[v], []⟩ [(x, v)]) ∧
    (∀ (H : Hp) (a : Addr) (ns : List Int), ns.length ≤ n → (∀ z ∈ ns, Builtin.Int.intBits z ≤ 1048576) → (∀ p ∈ cs, H p.2 = some (TabX p.2)) → SqL K H a (ns.map V.int) → sp [.ref a] H (fun v H' => v = .bl true ∧ ∀ p ∈ cs, H' p.2 = some (TabX p.2)) fun _ _ _ => False) ∧
    ∀ base : Heap, K.In base → base.Ns mainGlobals mg → (∀ p ∈ cs, GxR.TabB base mg p.1 p.2) → FnOk l.prog w K mg base CX k fa fd [x] sp
theorem walk_X {l : PySem.W.OpenLaw} {n k : Nat} {q : Program} {loose : List Str} {XP : (Str → Option Value) → Heap → Prop} {YP : World → Heap → Prop} {d : DefRec} {Kf : Params → PySem.W.Frag} {CX : World → CXT} {x : Str}
    (h1 : l.most = some n) (h2 : n ≤ sizeLine) (h3 : d.params.defaults = []) (h4 : Room k callerA) (h5 : ∀ (w : World) (h : Heap), YP w h → (Kf w.params).In h)
    (F : ∀ (w : World) (mg : Str → Option Value) (fa : Addr) (h : Heap), YP w h → (Kf w.params).In h → h.Ns mainGlobals mg → mg d.name = some (.ref fa) → Rec0 q mg h → LawX l w (Kf w.params) (CX w) k n x mg fa h)
    (h6 : ∀ (w : World) (H : Hp) (s : Shared) (e : Value) (s' : Shared), CX w [] H s (fun _ _ _ => False) e s' → False) :
    PySem.W.WalkO q loose XP YP l.row.toRowW d [] (fun f vs => PySem.call f vs) := by
  refine Att.attach_callB h1 h3 fun w _ s₁ mg mb fa o pm cd doc a vs ns G Y _ _ _ hmg hobj hints hlen hbits hg => ?_
  have X := h5 w _ Y
  obtain ⟨fd, cs, sp, T, bd, hsp, ok⟩ := F w mg fa _ Y X G.T.g hmg G.T.tab
  exact law_callX ⟨X, G.T.g, G.T.b, G.T.builtins, G.T.nolimit, hg, G.T.bmain⟩ T hobj hints (Nat.le_trans hlen h2) h4 ok bd (fun H hT hS => hsp H a ns hlen hbits hT hS) fun H e s' => h6 w H s₁ e s'
end KC
set_option Elab.async false
set_option linter.all false
set_option maxRecDepth 100000
set_option maxHeartbeats 4000000
namespace K13
open PySem PySem.Spec PyProof.Rows L2 GX KC Evl M08 M09 M10 M01 M12 M13 KX KQ
theorem top_of {l : PySem.W.OpenLaw} {q : Program} {w : World} {K : PySem.W.Frag} {h : Heap} {mg : Str → Option Value} {fa : Addr} (X : K.In h) (G : h.Ns mainGlobals mg) (R : Rec0 q mg h) (hfa : mg "law" = some (.ref fa))
    {f0 : Addr} {od0 an0 : Option Addr} {sl0 : Array (Option Value)} {oc0 kV0 dc0 pm0 ct0 : Value} {cd0 : Value}
    (a0 : PySem.W.nsIn K mainGlobals "low_in" = some (some (.ref f0))) (l0 : K.lookup f0 = some ⟨oc0, od0, .func (PySem.W.fnOf "low_in" "low_in" (defArgs s_low_in) (defBody s_low_in) (defScope s_low_in) .none kV0 dc0 pm0 an0 cd0 ct0), sl0⟩) (c0 : PySem.W.codeIn K cd0 "low_in" = true) (k0 : PySem.W.keepIn K (.ref f0) = true)
    {f1 : Addr} {od1 an1 : Option Addr} {sl1 : Array (Option Value)} {oc1 kV1 dc1 pm1 ct1 : Value} {cd1 : Value}
    (a1 : PySem.W.nsIn K mainGlobals "symbol_in" = some (some (.ref f1))) (l1 : K.lookup f1 = some ⟨oc1, od1, .func (PySem.W.fnOf "symbol_in" "symbol_in" (defArgs s_symbol_in) (defBody s_symbol_in) (defScope s_symbol_in) .none kV1 dc1 pm1 an1 cd1 ct1), sl1⟩) (c1 : PySem.W.codeIn K cd1 "symbol_in" = true) (k1 : PySem.W.keepIn K (.ref f1) = true)
    {f2 : Addr} {od2 an2 : Option Addr} {sl2 : Array (Option Value)} {oc2 kV2 dc2 pm2 ct2 : Value} {cd2 : Value}
    (a2 : PySem.W.nsIn K mainGlobals "_law_cell" = some (some (.ref f2))) (l2 : K.lookup f2 = some ⟨oc2, od2, .func (PySem.W.fnOf "_law_cell" "_law_cell" (defArgs s_law_cell) (defBody s_law_cell) (defScope s_law_cell) .none kV2 dc2 pm2 an2 cd2 ct2), sl2⟩) (c2 : PySem.W.codeIn K cd2 "_law_cell" = true) (k2 : PySem.W.keepIn K (.ref f2) = true)
    {f3 : Addr} {od3 an3 : Option Addr} {sl3 : Array (Option Value)} {oc3 kV3 dc3 pm3 ct3 : Value} {cd3 : Value}
    (a3 : PySem.W.nsIn K mainGlobals "push" = some (some (.ref f3))) (l3 : K.lookup f3 = some ⟨oc3, od3, .func (PySem.W.fnOf "push" "push" (defArgs s_push) (defBody s_push) (defScope s_push) .none kV3 dc3 pm3 an3 cd3 ct3), sl3⟩) (c3 : PySem.W.codeIn K cd3 "push" = true) (k3 : PySem.W.keepIn K (.ref f3) = true)
    {f4 : Addr} {od4 an4 : Option Addr} {sl4 : Array (Option Value)} {oc4 kV4 dc4 pm4 ct4 : Value} {cd4 : Value}
    (a4 : PySem.W.nsIn K mainGlobals "pop" = some (some (.ref f4))) (l4 : K.lookup f4 = some ⟨oc4, od4, .func (PySem.W.fnOf "pop" "pop" (defArgs s_pop) (defBody s_pop) (defScope s_pop) .none kV4 dc4 pm4 an4 cd4 ct4), sl4⟩) (c4 : PySem.W.codeIn K cd4 "pop" = true) (k4 : PySem.W.keepIn K (.ref f4) = true)
    {f5 : Addr} {od5 an5 : Option Addr} {sl5 : Array (Option Value)} {oc5 kV5 dc5 pm5 ct5 : Value} {cd5 : Value}
    (a5 : PySem.W.nsIn K mainGlobals "shares" = some (some (.ref f5))) (l5 : K.lookup f5 = some ⟨oc5, od5, .func (PySem.W.fnOf "shares" "shares" (defArgs s_shares) (defBody s_shares) (defScope s_shares) .none kV5 dc5 pm5 an5 cd5 ct5), sl5⟩) (c5 : PySem.W.codeIn K cd5 "shares" = true) (k5 : PySem.W.keepIn K (.ref f5) = true)
    {f6 : Addr} {od6 an6 : Option Addr} {sl6 : Array (Option Value)} {oc6 kV6 dc6 pm6 ct6 : Value} {cd6 : Value}
    (a6 : PySem.W.nsIn K mainGlobals "pack_words" = some (some (.ref f6))) (l6 : K.lookup f6 = some ⟨oc6, od6, .func (PySem.W.fnOf "pack_words" "pack_words" (defArgs s_pack_words) (defBody s_pack_words) (defScope s_pack_words) .none kV6 dc6 pm6 an6 cd6 ct6), sl6⟩) (c6 : PySem.W.codeIn K cd6 "pack_words" = true) (k6 : PySem.W.keepIn K (.ref f6) = true)
    {f7 : Addr} {od7 an7 : Option Addr} {sl7 : Array (Option Value)} {oc7 kV7 dc7 pm7 ct7 : Value} {cd7 : Value}
    (a7 : PySem.W.nsIn K mainGlobals "refill" = some (some (.ref f7))) (l7 : K.lookup f7 = some ⟨oc7, od7, .func (PySem.W.fnOf "refill" "refill" (defArgs s_refill) (defBody s_refill) (defScope s_refill) .none kV7 dc7 pm7 an7 cd7 ct7), sl7⟩) (c7 : PySem.W.codeIn K cd7 "refill" = true) (k7 : PySem.W.keepIn K (.ref f7) = true)
    {f8 : Addr} {od8 an8 : Option Addr} {sl8 : Array (Option Value)} {oc8 kV8 dc8 pm8 ct8 : Value} {cd8 : Value}
    (a8 : PySem.W.nsIn K mainGlobals "unpack_words" = some (some (.ref f8))) (l8 : K.lookup f8 = some ⟨oc8, od8, .func (PySem.W.fnOf "unpack_words" "unpack_words" (defArgs s_unpack_words) (defBody s_unpack_words) (defScope s_unpack_words) .none kV8 dc8 pm8 an8 cd8 ct8), sl8⟩) (c8 : PySem.W.codeIn K cd8 "unpack_words" = true) (k8 : PySem.W.keepIn K (.ref f8) = true)
    {f9 : Addr} {od9 an9 : Option Addr} {sl9 : Array (Option Value)} {oc9 kV9 dc9 pm9 ct9 : Value} {cd9 : Value}
    (a9 : PySem.W.nsIn K mainGlobals "_law_weights" = some (some (.ref f9))) (l9 : K.lookup f9 = some ⟨oc9, od9, .func (PySem.W.fnOf "_law_weights" "_law_weights" (defArgs s_law_weights) (defBody s_law_weights) (defScope s_law_weights) .none kV9 dc9 pm9 an9 cd9 ct9), sl9⟩) (c9 : PySem.W.codeIn K cd9 "_law_weights" = true) (k9 : PySem.W.keepIn K (.ref f9) = true)
    {f10 : Addr} {od10 an10 : Option Addr} {sl10 : Array (Option Value)} {oc10 kV10 dc10 pm10 ct10 : Value} {cd10 : Value}
    (a10 : PySem.W.nsIn K mainGlobals "_law_packed" = some (some (.ref f10))) (l10 : K.lookup f10 = some ⟨oc10, od10, .func (PySem.W.fnOf "_law_packed" "_law_packed" (defArgs s_law_packed) (defBody s_law_packed) (defScope s_law_packed) .none kV10 dc10 pm10 an10 cd10 ct10), sl10⟩) (c10 : PySem.W.codeIn K cd10 "_law_packed" = true) (k10 : PySem.W.keepIn K (.ref f10) = true)
    {f11 : Addr} {od11 an11 : Option Addr} {sl11 : Array (Option Value)} {oc11 kV11 dc11 pm11 ct11 : Value} {cd11 : Value}
    (a11 : PySem.W.nsIn K mainGlobals "_law_unpacked" = some (some (.ref f11))) (l11 : K.lookup f11 = some ⟨oc11, od11, .func (PySem.W.fnOf "_law_unpacked" "_law_unpacked" (defArgs s_law_unpacked) (defBody s_law_unpacked) (defScope s_law_unpacked) .none kV11 dc11 pm11 an11 cd11 ct11), sl11⟩) (c11 : PySem.W.codeIn K cd11 "_law_unpacked" = true) (k11 : PySem.W.keepIn K (.ref f11) = true)
    {f12 : Addr} {od12 an12 : Option Addr} {sl12 : Array (Option Value)} {oc12 kV12 dc12 pm12 ct12 : Value} {cd12 : Value}
    (a12 : PySem.W.nsIn K mainGlobals "_law_told" = some (some (.ref f12))) (l12 : K.lookup f12 = some ⟨oc12, od12, .func (PySem.W.fnOf "_law_told" "_law_told" (defArgs s_law_told) (defBody s_law_told) (defScope s_law_told) .none kV12 dc12 pm12 an12 cd12 ct12), sl12⟩) (c12 : PySem.W.codeIn K cd12 "_law_told" = true) (k12 : PySem.W.keepIn K (.ref f12) = true)
    {f13 : Addr} {od13 an13 : Option Addr} {sl13 : Array (Option Value)} {oc13 kV13 dc13 pm13 ct13 : Value} {cd13 : Value}
    (a13 : PySem.W.nsIn K mainGlobals "law" = some (some (.ref f13))) (l13 : K.lookup f13 = some ⟨oc13, od13, .func (PySem.W.fnOf "law" "law" (defArgs s_law) (defBody s_law) (defScope s_law) .none kV13 dc13 pm13 an13 cd13 ct13), sl13⟩) (c13 : PySem.W.codeIn K cd13 "law" = true) (k13 : PySem.W.keepIn K (.ref f13) = true)
    (z_len : PySem.W.nsIn K mainGlobals "len" = some none)
    (z_int : PySem.W.nsIn K mainGlobals "int" = some none)
    (z_min : PySem.W.nsIn K mainGlobals "min" = some none)
    (z_max : PySem.W.nsIn K mainGlobals "max" = some none)
    (z_list : PySem.W.nsIn K mainGlobals "list" = some none)
    (z_sorted : PySem.W.nsIn K mainGlobals "sorted" = some none)
    (z_sum : PySem.W.nsIn K mainGlobals "sum" = some none)
    (z_range : PySem.W.nsIn K mainGlobals "range" = some none)
    (z_enumerate : PySem.W.nsIn K mainGlobals "enumerate" = some none)
    (z_zip : PySem.W.nsIn K mainGlobals "zip" = some none)
    (z_any : PySem.W.nsIn K mainGlobals "any" = some none)
    (z_isinstance : PySem.W.nsIn K mainGlobals "isinstance" = some none)
    (z_bool : PySem.W.nsIn K mainGlobals "bool" = some none)
    (z_reversed : PySem.W.nsIn K mainGlobals "reversed" = some none)
    {CT fI : Addr}
    {nmT qT : Str} {NT : Addr} {bsT bmT : List Value} {snT : List Str} {subT : List Value} {abT : Bool} {colT : Option Bool} {ddT : Option Addr} {m0T m1T m2T m3T m5T : Option Value} {oT : Obj} {tkT : Tok}
    (gT : PySem.W.nsIn K mainGlobals "Truncated" = some (some (.ref CT)))
    (xlT : K.lookup CT = some (excClassObj nmT qT CT NT bsT bmT true snT subT abT colT ddT m0T m1T m2T m3T m5T "ValueError.__new__"))
    (rT : PySem.HandSPX.refsVE bmT = true)
    (saT : PySem.W.findIn K (.ref CT) "__setattr__" = some (some (.builtin "object.__setattr__")))
    (exT : PySem.W.subIn K (.ref CT) (.type "BaseException") = some true)
    (tyT : PySem.W.typeIn K (.ref CT) = some (.type "type"))
    (kpT : PySem.W.keepIn K (.ref CT) = true)
    (gaT : PySem.W.findIn K (.ref CT) "__getattribute__" = some (some (.builtin "BaseException.__getattribute__")))
    (ggT : PySem.W.findIn K (.ref CT) "__getattr__" = some none)
    (hdT : PySem.W.hasDictIn K CT = true)
    (haT : PySem.W.findIn K (.ref CT) "__class__" = some (some (.builtin "object.__class__")))
    (hmT : PySem.W.mroIn K CT (.type "object") = some true)
    (obT : K.lookup CT = some oT)
    (osT : oT.slots[2]? = some (some (.str "Truncated" tkT)))
    (rdT : PySem.W.readsIn K CT (.type "type") = true)
    (fcT : PySem.W.findCls K (.ref CT) (.type "type") "__name__" = some (.get (.builtin "getset_descriptor.__get__") (.builtin "type.__name__") (.ref CT) (.type "type")))
    (fpT : PySem.W.findIn K (.ref CT) "place" = some none)
    (fnT : PySem.W.findIn K (.ref CT) "name" = some none)
    (fiT : PySem.W.findIn K (.ref CT) "__init__" = some (some (.ref fI)))
    (hn : PySem.W.specialIn K (.builtin "object.__class__") "__get__" = some (some (.builtin "getset_descriptor.__get__")))
    (ht : PySem.W.takesIn K (.builtin "object.__class__") = some true)
    {ocI : Value} {odI anI : Option Addr} {slI : Array (Option Value)} {kVI dcI pmI ctI cdI : Value}
    (tyF : PySem.W.typeIn K (.ref fI) = some (.type "function"))
    (lI : K.lookup fI = some ⟨ocI, odI, .func (PySem.W.fnOf "__init__" "KraftroomError.__init__" (defArgs s_KraftroomError_init) (defBody s_KraftroomError_init) (defScope s_KraftroomError_init) .none kVI dcI pmI anI cdI ctI), slI⟩)
    (cI : PySem.W.codeIn K cdI "KraftroomError.__init__" = true)
    (kI : PySem.W.keepIn K (.ref fI) = true)
    (zVE : PySem.W.nsIn K mainGlobals "ValueError" = some none)
    (vV : PySem.W.findCls K (.type "ValueError") (.type "type") "__init__" = some (.val (.builtin "ValueError.__init__")))
    (x1 : PySem.W.exmOne K (.ref CT) (.ref CT) = some true)
    {C0 : Addr}
    (aC0 : PySem.W.nsIn K mainGlobals "Counts" = some (some (.ref C0)))
    (pg0 : PySem.W.plainGet K C0 Str.empty = true)
    (hd_0 : PySem.W.hasDictIn K C0 = true)
    (po0 : PySem.W.plainOver K C0 = true)
    (sa0 : PySem.W.findIn K (.ref C0) "__setattr__" = some (some (.builtin "object.__setattr__")))
    (mk0 : PySem.W.makesIn K C0 = true)
    (kc0 : PySem.W.keepIn K (.ref C0) = true)
    (na0_weights : PySem.W.findIn K (.ref C0) "weights" = some none)
    {fm0_init : Addr} {od0_init an0_init : Option Addr} {sl0_init : Array (Option Value)} {oc0_init kV0_init dc0_init pm0_init ct0_init cd0_init : Value}
    (b0_init : PySem.W.findIn K (.ref C0) "__init__" = some (some (.ref fm0_init)))
    (i0_init : PySem.W.isFn K (.ref fm0_init) = true)
    (l0_init : K.lookup fm0_init = some ⟨oc0_init, od0_init, .func (PySem.W.fnOf "__init__" "Counts.__init__" (defArgs s_Counts_init) (defBody s_Counts_init) (defScope s_Counts_init) .none kV0_init dc0_init pm0_init an0_init cd0_init ct0_init), sl0_init⟩)
    (c0_init : PySem.W.codeIn K cd0_init "Counts.__init__" = true)
    (k0_init : PySem.W.keepIn K (.ref fm0_init) = true)
    {fm0_size : Addr} {od0_size an0_size : Option Addr} {sl0_size : Array (Option Value)} {oc0_size kV0_size dc0_size pm0_size ct0_size cd0_size : Value}
    (b0_size : PySem.W.findIn K (.ref C0) "size" = some (some (.ref fm0_size)))
    (i0_size : PySem.W.isFn K (.ref fm0_size) = true)
    (l0_size : K.lookup fm0_size = some ⟨oc0_size, od0_size, .func (PySem.W.fnOf "size" "Counts.size" (defArgs s_Counts_size) (defBody s_Counts_size) (defScope s_Counts_size) .none kV0_size dc0_size pm0_size an0_size cd0_size ct0_size), sl0_size⟩)
    (c0_size : PySem.W.codeIn K cd0_size "Counts.size" = true)
    (k0_size : PySem.W.keepIn K (.ref fm0_size) = true)
    {fm0_total : Addr} {od0_total an0_total : Option Addr} {sl0_total : Array (Option Value)} {oc0_total kV0_total dc0_total pm0_total ct0_total cd0_total : Value}
    (b0_total : PySem.W.findIn K (.ref C0) "total" = some (some (.ref fm0_total)))
    (i0_total : PySem.W.isFn K (.ref fm0_total) = true)
    (l0_total : K.lookup fm0_total = some ⟨oc0_total, od0_total, .func (PySem.W.fnOf "total" "Counts.total" (defArgs s_Counts_total) (defBody s_Counts_total) (defScope s_Counts_total) .none kV0_total dc0_total pm0_total an0_total cd0_total ct0_total), sl0_total⟩)
    (c0_total : PySem.W.codeIn K cd0_total "Counts.total" = true)
    (k0_total : PySem.W.keepIn K (.ref fm0_total) = true)
    {fm0_low : Addr} {od0_low an0_low : Option Addr} {sl0_low : Array (Option Value)} {oc0_low kV0_low dc0_low pm0_low ct0_low cd0_low : Value}
    (b0_low : PySem.W.findIn K (.ref C0) "low" = some (some (.ref fm0_low)))
    (i0_low : PySem.W.isFn K (.ref fm0_low) = true)
    (l0_low : K.lookup fm0_low = some ⟨oc0_low, od0_low, .func (PySem.W.fnOf "low" "Counts.low" (defArgs s_Counts_low) (defBody s_Counts_low) (defScope s_Counts_low) .none kV0_low dc0_low pm0_low an0_low cd0_low ct0_low), sl0_low⟩)
    (c0_low : PySem.W.codeIn K cd0_low "Counts.low" = true)
    (k0_low : PySem.W.keepIn K (.ref fm0_low) = true)
    {fm0_weight : Addr} {od0_weight an0_weight : Option Addr} {sl0_weight : Array (Option Value)} {oc0_weight kV0_weight dc0_weight pm0_weight ct0_weight cd0_weight : Value}
    (b0_weight : PySem.W.findIn K (.ref C0) "weight" = some (some (.ref fm0_weight)))
    (i0_weight : PySem.W.isFn K (.ref fm0_weight) = true)
    (l0_weight : K.lookup fm0_weight = some ⟨oc0_weight, od0_weight, .func (PySem.W.fnOf "weight" "Counts.weight" (defArgs s_Counts_weight) (defBody s_Counts_weight) (defScope s_Counts_weight) .none kV0_weight dc0_weight pm0_weight an0_weight cd0_weight ct0_weight), sl0_weight⟩)
    (c0_weight : PySem.W.codeIn K cd0_weight "Counts.weight" = true)
    (k0_weight : PySem.W.keepIn K (.ref fm0_weight) = true)
    {fm0_symbol_at : Addr} {od0_symbol_at an0_symbol_at : Option Addr} {sl0_symbol_at : Array (Option Value)} {oc0_symbol_at kV0_symbol_at dc0_symbol_at pm0_symbol_at ct0_symbol_at cd0_symbol_at : Value}
    (b0_symbol_at : PySem.W.findIn K (.ref C0) "symbol_at" = some (some (.ref fm0_symbol_at)))
    (i0_symbol_at : PySem.W.isFn K (.ref fm0_symbol_at) = true)
    (l0_symbol_at : K.lookup fm0_symbol_at = some ⟨oc0_symbol_at, od0_symbol_at, .func (PySem.W.fnOf "symbol_at" "Counts.symbol_at" (defArgs s_Counts_symbol_at) (defBody s_Counts_symbol_at) (defScope s_Counts_symbol_at) .none kV0_symbol_at dc0_symbol_at pm0_symbol_at an0_symbol_at cd0_symbol_at ct0_symbol_at), sl0_symbol_at⟩)
    (c0_symbol_at : PySem.W.codeIn K cd0_symbol_at "Counts.symbol_at" = true)
    (k0_symbol_at : PySem.W.keepIn K (.ref fm0_symbol_at) = true)
    {fm0_learn : Addr} {od0_learn an0_learn : Option Addr} {sl0_learn : Array (Option Value)} {oc0_learn kV0_learn dc0_learn pm0_learn ct0_learn cd0_learn : Value}
    (b0_learn : PySem.W.findIn K (.ref C0) "learn" = some (some (.ref fm0_learn)))
    (i0_learn : PySem.W.isFn K (.ref fm0_learn) = true)
    (l0_learn : K.lookup fm0_learn = some ⟨oc0_learn, od0_learn, .func (PySem.W.fnOf "learn" "Counts.learn" (defArgs s_Counts_learn) (defBody s_Counts_learn) (defScope s_Counts_learn) .none kV0_learn dc0_learn pm0_learn an0_learn cd0_learn ct0_learn), sl0_learn⟩)
    (c0_learn : PySem.W.codeIn K cd0_learn "Counts.learn" = true)
    (k0_learn : PySem.W.keepIn K (.ref fm0_learn) = true)
    {fm0_fresh : Addr} {od0_fresh an0_fresh : Option Addr} {sl0_fresh : Array (Option Value)} {oc0_fresh kV0_fresh dc0_fresh pm0_fresh ct0_fresh cd0_fresh : Value}
    (b0_fresh : PySem.W.findIn K (.ref C0) "fresh" = some (some (.ref fm0_fresh)))
    (i0_fresh : PySem.W.isFn K (.ref fm0_fresh) = true)
    (l0_fresh : K.lookup fm0_fresh = some ⟨oc0_fresh, od0_fresh, .func (PySem.W.fnOf "fresh" "Counts.fresh" (defArgs s_Counts_fresh) (defBody s_Counts_fresh) (defScope s_Counts_fresh) .none kV0_fresh dc0_fresh pm0_fresh an0_fresh cd0_fresh ct0_fresh), sl0_fresh⟩)
    (c0_fresh : PySem.W.codeIn K cd0_fresh "Counts.fresh" = true)
    (k0_fresh : PySem.W.keepIn K (.ref fm0_fresh) = true)
    {ta : Tok}
    (yg_WORD_BITS : PySem.W.nsIn K mainGlobals "WORD_BITS" = some (some (.int 8 ta)))
    {tb : Tok}
    (yg_LEAST_STATE : PySem.W.nsIn K mainGlobals "LEAST_STATE" = some (some (.int 65536 tb)))
    {tc : Tok}
    (yg_STATE_END : PySem.W.nsIn K mainGlobals "STATE_END" = some (some (.int 16777216 tc)))
    : LawX l w K CX0 8 63 "script" mg fa h := by
  have e := hfa.symm.trans (PySem.W.mg_of X G a13)
  cases e
  have T1 : ∀ p ∈ ([] : List (Addr × Addr)), h.get? p.2 = some tabO := (fun p hp => absurd hp List.not_mem_nil)
  have T2 : ∀ p ∈ ([] : List (Addr × Addr)), K.lookup p.2 = none := (fun p hp => absurd hp List.not_mem_nil)
  have T3 : ∀ p ∈ ([] : List (Addr × Addr)), PySem.W.CodeHd h p.1 p.2 := (fun p hp => absurd hp List.not_mem_nil)
  refine ⟨PySem.W.fnOf "law" "law" (defArgs s_law) (defBody s_law) (defScope s_law) .none kV13 dc13 pm13 an13 cd13 ct13, [], spLaw K, ⟨T1, T2, T3⟩, fun s v => .of_eq rfl, fun H a ns hl hb hT hS => ⟨a, ns, rfl, hS, hl, fun H2 => ⟨rfl, fun p hp => absurd hp List.not_mem_nil⟩⟩, fun base kb gb TB => ?_⟩
  have B : Bs mg := ⟨PySem.W.mg_none_of X G z_len, PySem.W.mg_none_of X G z_int, PySem.W.mg_none_of X G z_min, PySem.W.mg_none_of X G z_max, PySem.W.mg_none_of X G z_list, PySem.W.mg_none_of X G z_sorted, PySem.W.mg_none_of X G z_sum, PySem.W.mg_none_of X G z_range, PySem.W.mg_none_of X G z_enumerate, PySem.W.mg_none_of X G z_zip, PySem.W.mg_none_of X G z_any, PySem.W.mg_none_of X G z_isinstance, PySem.W.mg_none_of X G z_bool, PySem.W.mg_none_of X G z_reversed⟩
  have FI := fun_mk (st := s_KraftroomError_init) lI cI kI
  have BI := FI.binds (ps := ["self", "place"]) fun _ _ _ _ _ _ us hl => match us, hl with | [_, _], _ => rfl
  have ET : ErrK K CT "Truncated" := ⟨⟨⟨_, _, _, _, _, _, _, _, _, _, _, _, _, _, _, xlT, rT⟩, saT, exT, tyT, kpT⟩, ⟨gaT, ggT, exT, hdT, haT, hn, ht, hmT⟩, ⟨⟨oT, tkT, obT, osT⟩, tyT, rdT, fcT⟩, fpT, fnT⟩
  have MT := PySem.W.mg_of X G gT
  have GT : ErrG l.prog w K mg base "Truncated" CT fI _ := ⟨ET, fiT, tyF, MT, ok_init (k := 0) FI (PySem.W.mg_none_of X G zVE) vV, BI⟩
  have F0_init := fun_mk (st := s_Counts_init) l0_init c0_init k0_init
  have B0_init := F0_init.binds (ps := ["self", "weights"]) fun _ _ _ _ _ _ us hl => match us, hl with | [_, _], _ => rfl
  have F0_size := fun_mk (st := s_Counts_size) l0_size c0_size k0_size
  have B0_size := F0_size.binds (ps := ["self"]) fun _ _ _ _ _ _ us hl => match us, hl with | [_], _ => rfl
  have F0_total := fun_mk (st := s_Counts_total) l0_total c0_total k0_total
  have B0_total := F0_total.binds (ps := ["self"]) fun _ _ _ _ _ _ us hl => match us, hl with | [_], _ => rfl
  have F0_low := fun_mk (st := s_Counts_low) l0_low c0_low k0_low
  have B0_low := F0_low.binds (ps := ["self", "symbol"]) fun _ _ _ _ _ _ us hl => match us, hl with | [_, _], _ => rfl
  have F0_weight := fun_mk (st := s_Counts_weight) l0_weight c0_weight k0_weight
  have B0_weight := F0_weight.binds (ps := ["self", "symbol"]) fun _ _ _ _ _ _ us hl => match us, hl with | [_, _], _ => rfl
  have F0_symbol_at := fun_mk (st := s_Counts_symbol_at) l0_symbol_at c0_symbol_at k0_symbol_at
  have B0_symbol_at := F0_symbol_at.binds (ps := ["self", "number"]) fun _ _ _ _ _ _ us hl => match us, hl with | [_, _], _ => rfl
  have F0_learn := fun_mk (st := s_Counts_learn) l0_learn c0_learn k0_learn
  have B0_learn := F0_learn.binds (ps := ["self", "symbol"]) fun _ _ _ _ _ _ us hl => match us, hl with | [_, _], _ => rfl
  have F0_fresh := fun_mk (st := s_Counts_fresh) l0_fresh c0_fresh k0_fresh
  have B0_fresh := F0_fresh.binds (ps := ["self"]) fun _ _ _ _ _ _ us hl => match us, hl with | [_], _ => rfl
  obtain ⟨Cl, e0⟩ : ∃ Cl : Nat → Addr, ∀ i, Cl i = C0 := ⟨fun _ => C0, fun _ => rfl⟩
  have T : Txt K Cl := ⟨by rw [e0]; exact ⟨pg0, hd_0, po0, sa0⟩, by rw [e0]; exact na0_weights⟩
  have GW_ : GW mg ta tb tc := ⟨PySem.W.mg_of X G yg_WORD_BITS, PySem.W.mg_of X G yg_LEAST_STATE, PySem.W.mg_of X G yg_STATE_END⟩
  have F0 := fun_mk (st := s_low_in) l0 c0 k0
  have C_low_in := cal_of (P := l.prog) (w := w) (base := base) F0 (PySem.W.mg_of X G a0) (F0.binds (ps := ["weights", "symbol"]) fun _ _ _ _ _ _ us hl => match us, hl with | [_, _], _ => rfl) (ok_low_in (k := 0) F0 B)
  have F1 := fun_mk (st := s_symbol_in) l1 c1 k1
  have C_symbol_in := cal_of (P := l.prog) (w := w) (base := base) F1 (PySem.W.mg_of X G a1) (F1.binds (ps := ["weights", "number"]) fun _ _ _ _ _ _ us hl => match us, hl with | [_, _], _ => rfl) (ok_symbol_in (k := 0) F1 B)
  have N_Counts : CalM l.prog w K mg base "Counts" (Cl 0) 1 ["self", "weights"] (spInitC K Cl) := ⟨_, _, by rw [e0]; exact PySem.W.mg_of X G aC0, by rw [e0]; exact ⟨mk0, b0_init, i0_init, kc0⟩, B0_init, ok_Counts_init (k := 0) F0_init B T⟩
  have K0_size : FnOk l.prog w K mg base CX0 1 fm0_size _ ["self"] (spSize Cl 0) := ok_Counts_size (k := 0) F0_size B T
  have D_size : MCal l.prog w K mg base Cl Any "size" 1 ["self"] (spSize Cl) := ⟨fun i hi => ⟨by rw [e0]; exact ⟨pg0, hd_0, po0, sa0⟩, _, _, by rw [e0]; exact ⟨b0_size, i0_size, k0_size⟩, B0_size, match i with | 0 => K0_size.mono (by decide) | j + 1 => (K0_size.mono (by decide)).imp fun vs H Q E h => (no_size h).elim⟩⟩
  have K0_total : FnOk l.prog w K mg base CX0 1 fm0_total _ ["self"] (spTotal Cl 0) := ok_Counts_total (k := 0) F0_total B T
  have D_total : MCal l.prog w K mg base Cl Any "total" 2 ["self"] (spTotal Cl) := ⟨fun i hi => ⟨by rw [e0]; exact ⟨pg0, hd_0, po0, sa0⟩, _, _, by rw [e0]; exact ⟨b0_total, i0_total, k0_total⟩, B0_total, match i with | 0 => K0_total.mono (by decide) | j + 1 => (K0_total.mono (by decide)).imp fun vs H Q E h => (no_total h).elim⟩⟩
  have K0_low : FnOk l.prog w K mg base CX0 2 fm0_low _ ["self", "symbol"] (spLow Cl 0) := ok_Counts_low (k := 0) F0_low B T C_low_in
  have D_low : MCal l.prog w K mg base Cl Any "low" 3 ["self", "symbol"] (spLow Cl) := ⟨fun i hi => ⟨by rw [e0]; exact ⟨pg0, hd_0, po0, sa0⟩, _, _, by rw [e0]; exact ⟨b0_low, i0_low, k0_low⟩, B0_low, match i with | 0 => K0_low.mono (by decide) | j + 1 => (K0_low.mono (by decide)).imp fun vs H Q E h => (no_low h).elim⟩⟩
  have K0_weight : FnOk l.prog w K mg base CX0 1 fm0_weight _ ["self", "symbol"] (spWeight Cl 0) := ok_Counts_weight (k := 0) F0_weight B T
  have D_weight : MCal l.prog w K mg base Cl Any "weight" 2 ["self", "symbol"] (spWeight Cl) := ⟨fun i hi => ⟨by rw [e0]; exact ⟨pg0, hd_0, po0, sa0⟩, _, _, by rw [e0]; exact ⟨b0_weight, i0_weight, k0_weight⟩, B0_weight, match i with | 0 => K0_weight.mono (by decide) | j + 1 => (K0_weight.mono (by decide)).imp fun vs H Q E h => (no_weight h).elim⟩⟩
  have K0_symbol_at : FnOk l.prog w K mg base CX0 2 fm0_symbol_at _ ["self", "number"] (spSym Cl 0) := ok_Counts_symbol_at (k := 0) F0_symbol_at B T C_symbol_in
  have D_symbol_at : MCal l.prog w K mg base Cl Any "symbol_at" 3 ["self", "number"] (spSym Cl) := ⟨fun i hi => ⟨by rw [e0]; exact ⟨pg0, hd_0, po0, sa0⟩, _, _, by rw [e0]; exact ⟨b0_symbol_at, i0_symbol_at, k0_symbol_at⟩, B0_symbol_at, match i with | 0 => K0_symbol_at.mono (by decide) | j + 1 => (K0_symbol_at.mono (by decide)).imp fun vs H Q E h => (no_symbol_at h).elim⟩⟩
  have K0_learn : FnOk l.prog w K mg base CX0 1 fm0_learn _ ["self", "symbol"] (spLearn Cl 0) := ok_Counts_learn (k := 0) F0_learn B
  have D_learn : MCal l.prog w K mg base Cl Any "learn" 3 ["self", "symbol"] (spLearn Cl) := ⟨fun i hi => ⟨by rw [e0]; exact ⟨pg0, hd_0, po0, sa0⟩, _, _, by rw [e0]; exact ⟨b0_learn, i0_learn, k0_learn⟩, B0_learn, match i with | 0 => K0_learn.mono (by decide) | j + 1 => (K0_learn.mono (by decide)).imp fun vs H Q E h => (no_learn h).elim⟩⟩
  have K0_fresh : FnOk l.prog w K mg base CX0 3 fm0_fresh _ ["self"] (spFresh Cl 0) := ok_Counts_fresh (k := 0) F0_fresh B T N_Counts
  have D_fresh : MCal l.prog w K mg base Cl Any "fresh" 5 ["self"] (spFresh Cl) := ⟨fun i hi => ⟨by rw [e0]; exact ⟨pg0, hd_0, po0, sa0⟩, _, _, by rw [e0]; exact ⟨b0_fresh, i0_fresh, k0_fresh⟩, B0_fresh, match i with | 0 => K0_fresh.mono (by decide) | j + 1 => (K0_fresh.mono (by decide)).imp fun vs H Q E h => (no_fresh h).elim⟩⟩
  have F2 := fun_mk (st := s_law_cell) l2 c2 k2
  have C_law_cell := cal_of (P := l.prog) (w := w) (base := base) F2 (PySem.W.mg_of X G a2) (F2.binds (ps := ["script", "k"]) fun _ _ _ _ _ _ us hl => match us, hl with | [_, _], _ => rfl) (ok_cell (k := 0) F2 B)
  have F3 := fun_mk (st := s_push) l3 c3 k3
  have C_push := cal_of (P := l.prog) (w := w) (base := base) F3 (PySem.W.mg_of X G a3) (F3.binds (ps := ["low", "weight", "total", "number"]) fun _ _ _ _ _ _ us hl => match us, hl with | [_, _, _, _], _ => rfl) (ok_push (k := 0) F3 B)
  have F4 := fun_mk (st := s_pop) l4 c4 k4
  have C_pop := cal_of (P := l.prog) (w := w) (base := base) F4 (PySem.W.mg_of X G a4) (F4.binds (ps := ["model", "number"]) fun _ _ _ _ _ _ us hl => match us, hl with | [_, _], _ => rfl) (ok_pop (k := 0) F4 B D_total D_weight D_low D_symbol_at)
  have F5 := fun_mk (st := s_shares) l5 c5 k5
  have C_shares := cal_of (P := l.prog) (w := w) (base := base) F5 (PySem.W.mg_of X G a5) (F5.binds (ps := ["model", "message"]) fun _ _ _ _ _ _ us hl => match us, hl with | [_, _], _ => rfl) (ok_shares (k := 0) F5 B D_total D_weight D_low D_fresh D_learn)
  have F6 := fun_mk (st := s_pack_words) l6 c6 k6
  have C_pack_words := cal_of (P := l.prog) (w := w) (base := base) F6 (PySem.W.mg_of X G a6) (F6.binds (ps := ["model", "message"]) fun _ _ _ _ _ _ us hl => match us, hl with | [_, _], _ => rfl) (ok_pack_words (k := 0) F6 B GW_ C_shares C_push)
  have F7 := fun_mk (st := s_refill) l7 c7 k7
  have C_refill := CalX.mk (P := l.prog) (w := w) (base := base) ⟨_, _, PySem.W.mg_of X G a7, F7.kp, F7.binds (ps := ["state", "words", "used"]) (fun _ _ _ _ _ _ us hl => match us, hl with | [_, _, _], _ => rfl), ok_refill (k := 0) F7 B GW_ GT⟩
  have F8 := fun_mk (st := s_unpack_words) l8 c8 k8
  have C_unpack_words := CalX.mk (P := l.prog) (w := w) (base := base) ⟨_, _, PySem.W.mg_of X G a8, F8.kp, F8.binds (ps := ["model", "state", "words", "count"]) (fun _ _ _ _ _ _ us hl => match us, hl with | [_, _, _, _], _ => rfl), ok_unpack_words (k := 0) F8 B C_pop C_refill D_fresh D_learn⟩
  have F9 := fun_mk (st := s_law_weights) l9 c9 k9
  have C_law_weights := cal_of (P := l.prog) (w := w) (base := base) F9 (PySem.W.mg_of X G a9) (F9.binds (ps := ["script"]) fun _ _ _ _ _ _ us hl => match us, hl with | [_], _ => rfl) (ok_weights (k := 0) F9 B C_law_cell)
  have F10 := fun_mk (st := s_law_packed) l10 c10 k10
  have C_law_packed := cal_of (P := l.prog) (w := w) (base := base) F10 (PySem.W.mg_of X G a10) (F10.binds (ps := ["weights", "message"]) fun _ _ _ _ _ _ us hl => match us, hl with | [_, _], _ => rfl) (ok_lpackedw (k := 0) F10 B)
  have F11 := fun_mk (st := s_law_unpacked) l11 c11 k11
  have C_law_unpacked := cal_of (P := l.prog) (w := w) (base := base) F11 (PySem.W.mg_of X G a11) (F11.binds (ps := ["weights", "state", "words", "count"]) fun _ _ _ _ _ _ us hl => match us, hl with | [_, _, _, _], _ => rfl) (ok_lunpacked (k := 0) F11 B)
  have F12 := fun_mk (st := s_law_told) l12 c12 k12
  have C_law_told := cal_of (P := l.prog) (w := w) (base := base) F12 (PySem.W.mg_of X G a12) (F12.binds (ps := ["model", "state", "words", "count"]) fun _ _ _ _ _ _ us hl => match us, hl with | [_, _, _, _], _ => rfl) (ok_told (k := 0) F12 MT ET x1 C_unpack_words)
  have F13 := fun_mk (st := s_law) l13 c13 k13
  exact ok_law (k := 0) F13 B C_law_cell C_law_weights N_Counts C_pack_words C_law_packed C_law_told C_law_unpacked
end K13
open PySem PySem.W PyProof.Rows
set_option maxHeartbeats 0 in
theorem PySem.Challenge.cw_kraftroom_k13_whole_messages_in_words_holds : PySem.Challenge.rw_kraftroom_k13_whole_messages_in_words.Holds := by
  w_on; o_law; k_head; (case hw => w_witness2)
  k_fill
  refine KC.walk_X (l := PySem.Challenge.rw_kraftroom_k13_whole_messages_in_words) (n := 63) (k := 8) (x := "script") (CX := fun _ => L2.CX0) rfl (by decide) rfl ⟨rfl, by decide, by decide⟩ (fun w h Y => PySem.W.kIn_of Y) ?F (fun _ _ _ _ _ h => h)
  case F =>
    intro w mg fa h Y KX G hmg R
    refine' K13.top_of KX G R hmg  ?a0 ?l0 ?c0 ?k0 ?a1 ?l1 ?c1 ?k1 ?a2 ?l2 ?c2 ?k2 ?a3 ?l3 ?c3 ?k3 ?a4 ?l4 ?c4 ?k4 ?a5 ?l5 ?c5 ?k5 ?a6 ?l6 ?c6 ?k6 ?a7 ?l7 ?c7 ?k7 ?a8 ?l8 ?c8 ?k8 ?a9 ?l9 ?c9 ?k9 ?a10 ?l10 ?c10 ?k10 ?a11 ?l11 ?c11 ?k11 ?a12 ?l12 ?c12 ?k12 ?a13 ?l13 ?c13 ?k13 ?z_len ?z_int ?z_min ?z_max ?z_list ?z_sorted ?z_sum ?z_range ?z_enumerate ?z_zip ?z_any ?z_isinstance ?z_bool ?z_reversed ?gT ?xlT ?rT ?saT ?exT ?tyT ?kpT ?gaT ?ggT ?hdT ?haT ?hmT ?obT ?osT ?rdT ?fcT ?fpT ?fnT ?fiT ?hn ?ht ?tyF ?lI ?cI ?kI ?zVE ?vV ?x1 ?aC0 ?pg0 ?hd_0 ?po0 ?sa0 ?mk0 ?kc0 ?na0_weights ?b0_init ?i0_init ?l0_init ?c0_init ?k0_init ?b0_size ?i0_size ?l0_size ?c0_size ?k0_size ?b0_total ?i0_total ?l0_total ?c0_total ?k0_total ?b0_low ?i0_low ?l0_low ?c0_low ?k0_low ?b0_weight ?i0_weight ?l0_weight ?c0_weight ?k0_weight ?b0_symbol_at ?i0_symbol_at ?l0_symbol_at ?c0_symbol_at ?k0_symbol_at ?b0_learn ?i0_learn ?l0_learn ?c0_learn ?k0_learn ?b0_fresh ?i0_fresh ?l0_fresh ?c0_fresh ?k0_fresh ?yg_WORD_BITS ?yg_LEAST_STATE ?yg_STATE_END
    (case a0 => k_is); (case l0 => k_is); (case c0 => k_is); (case k0 => k_is); (case a1 => k_is); (case l1 => k_is); (case c1 => k_is); (case k1 => k_is); (case a2 => k_is); (case l2 => k_is); (case c2 => k_is); (case k2 => k_is); (case a3 => k_is); (case l3 => k_is); (case c3 => k_is); (case k3 => k_is); (case a4 => k_is); (case l4 => k_is); (case c4 => k_is); (case k4 => k_is); (case a5 => k_is); (case l5 => k_is); (case c5 => k_is); (case k5 => k_is); (case a6 => k_is); (case l6 => k_is); (case c6 => k_is); (case k6 => k_is); (case a7 => k_is); (case l7 => k_is); (case c7 => k_is); (case k7 => k_is); (case a8 => k_is); (case l8 => k_is); (case c8 => k_is); (case k8 => k_is); (case a9 => k_is); (case l9 => k_is); (case c9 => k_is); (case k9 => k_is); (case a10 => k_is); (case l10 => k_is); (case c10 => k_is); (case k10 => k_is); (case a11 => k_is); (case l11 => k_is); (case c11 => k_is); (case k11 => k_is); (case a12 => k_is); (case l12 => k_is); (case c12 => k_is); (case k12 => k_is); (case a13 => k_is); (case l13 => k_is); (case c13 => k_is); (case k13 => k_is); (case z_len => k_is); (case z_int => k_is); (case z_min => k_is); (case z_max => k_is); (case z_list => k_is); (case z_sorted => k_is); (case z_sum => k_is); (case z_range => k_is); (case z_enumerate => k_is); (case z_zip => k_is); (case z_any => k_is); (case z_isinstance => k_is); (case z_bool => k_is); (case z_reversed => k_is); (case gT => k_is); (case xlT => k_is); (case rT => first | rfl | decide +kernel); (case saT => first | k_is | rfl); (case exT => first | k_is | rfl); (case tyT => first | k_is | rfl); (case kpT => first | k_is | rfl); (case gaT => first | k_is | rfl); (case ggT => first | k_is | rfl); (case hdT => first | k_is | rfl); (case haT => first | k_is | rfl); (case hmT => first | k_is | rfl); (case obT => k_is); (case osT => first | rfl | k_is); (case rdT => first | k_is | rfl); (case fcT => first | k_is | rfl); (case fpT => first | k_is | rfl); (case fnT => first | k_is | rfl); (case fiT => k_is); (case hn => first | k_is | rfl); (case ht => first | k_is | rfl); (case tyF => first | k_is | rfl); (case lI => k_is); (case cI => k_is); (case kI => k_is); (case zVE => k_is); (case vV => first | k_is | rfl); (case x1 => first | rfl | k_is | decide +kernel); (case aC0 => k_is); (case pg0 => first | k_is | rfl); (case hd_0 => first | k_is | rfl); (case po0 => first | k_is | rfl); (case sa0 => first | k_is | rfl); (case mk0 => first | k_is | rfl); (case kc0 => first | k_is | rfl); (case na0_weights => first | k_is | rfl); (case b0_init => k_is); (case i0_init => first | k_is | rfl); (case l0_init => k_is); (case c0_init => k_is); (case k0_init => first | k_is | rfl); (case b0_size => k_is); (case i0_size => first | k_is | rfl); (case l0_size => k_is); (case c0_size => k_is); (case k0_size => first | k_is | rfl); (case b0_total => k_is); (case i0_total => first | k_is | rfl); (case l0_total => k_is); (case c0_total => k_is); (case k0_total => first | k_is | rfl); (case b0_low => k_is); (case i0_low => first | k_is | rfl); (case l0_low => k_is); (case c0_low => k_is); (case k0_low => first | k_is | rfl); (case b0_weight => k_is); (case i0_weight => first | k_is | rfl); (case l0_weight => k_is); (case c0_weight => k_is); (case k0_weight => first | k_is | rfl); (case b0_symbol_at => k_is); (case i0_symbol_at => first | k_is | rfl); (case l0_symbol_at => k_is); (case c0_symbol_at => k_is); (case k0_symbol_at => first | k_is | rfl); (case b0_learn => k_is); (case i0_learn => first | k_is | rfl); (case l0_learn => k_is); (case c0_learn => k_is); (case k0_learn => first | k_is | rfl); (case b0_fresh => k_is); (case i0_fresh => first | k_is | rfl); (case l0_fresh => k_is); (case c0_fresh => k_is); (case k0_fresh => first | k_is | rfl); (case yg_WORD_BITS => k_is); (case yg_LEAST_STATE => k_is); (case yg_STATE_END => k_is)
