import PyProof.Rows.All
import KE.KIsAll
import KE.KDictList
import KE.KSortTup
import KE.IntBitsLaws
import PySem.Challenge.RW_drawndown_k21_weights_looked_at_and_told
set_option compiler.extract_closed false
set_option Elab.async false
set_option linter.all false
set_option maxRecDepth 100000
set_option maxHeartbeats 1000000
set_option exponentiation.threshold 5000
theorem aDe_(_:True:=by decide):True:=trivial
def aDe:Lean.Syntax:=aDe_._auto_1
theorem aLr_(_:True:=by first | exact .inl rfl | exact .inr rfl | assumption):True:=trivial
def aLr:Lean.Syntax:=aLr_._auto_1
theorem aOr_(_:True:=by first | exact Or.inl rfl | exact Or.inr rfl):True:=trivial
def aOr:Lean.Syntax:=aOr_._auto_1
theorem aIr_(_:True:=by intro _;rfl):True:=trivial
def aIr:Lean.Syntax:=aIr_._auto_1
theorem aRf_(_:True:=by rfl):True:=trivial
def aRf:Lean.Syntax:=aRf_._auto_1
theorem aWu_(_:True:=by with_unfolding_all rfl):True:=trivial
def aWu:Lean.Syntax:=aWu_._auto_1
section
namespace Zd
def zTab:String:="none
some # $1
true
.int # $1
some .int # $1 $1

List Int $1
# Int :
some d $1
\"Prop &1prop
.ok # s $2
# Str :

zd '0 $1
zd '1 $1
.tup # $1
.ref # $1
# \". length &3proj

false
.ok .int # $1 s $2
xs.length
.inl # $1
vr rfl $1
autoParam # aRf $2
# \". bind &3proj # $1
some e $1
gm X $1
List D $1
eC .int '0 $1 $1
# @0 \"[ # \"] @0 \"? %7term__[_]_? some # $1 `=
.ok .nx # $1 # $2
s.heap
zc '1 $1
zd '2 $1
v.length
Inv X ae O H s $5
some .lst # $1 $1
some .loc l $1 $1
some .loc s.length $1 $1
eC .int # $1 $1
base
zc '0 $1
.inr # $1
zr # # zj # $1 $3
.ok # s1 $2
PE X # # $3
id rfl $1
RE X E # # $4
.none
\"( ! &2hygienicLParen # Str : \", # @1 @3 \") &3tuple
# Nat : Int :
\"if # \"then # \"else .no %6termIfThenElse
.lst # $1
.int i $1
.ref a $1
Hs P w K mg base CX0 # # # $9
\"if # # `= \"then # \"else # %6termIfThenElse
some rD v $1 $1
_k * $1
\"if # \"then # \"else # %6termIfThenElse
# @0 \"[ i \"] @0 \"? %7term__[_]_? some # $1 `=
eC .int '1 $1 $1
List Str $1
s.heap.objs.size
outer
qual
x hx # \\2
starEach # X.env $2
eOp dIx zd # $1 zd # $1 $3
# # <2
.non
some # $1 none [2
at0 p # $2
rD v $1
.str # $1
L.length
\"\"lot\" %1str
# rfl # <3
some .int n $1 $1
List Expr $1
.tup xs $1
r.length
.type # $1
\"if # true `= \"then # \"else # %6termIfThenElse
deal r v $2 \". \"1 %1fieldIdx &3proj
zc '2 $1
D.int # $1
f ρ s $2
d3 a b c # # # # # # $9
.ok .bl # $1 s $2
Option Value $1
zb # zb # zm $2 $2
rD b $1
# # # <3
X.prog
List.range # $1 \". map &3proj # $1
.ref C $1
List V $1
some .int j $1 $1
sizeLine
X.env
T.length
aN zc # $1 zh $2
zg # zb # zm $2 $2
aN zc '1 $1 zh $2
Lot n v $2
some .ref # $1 $1
# [0 `≠
ps.length
.ok .nx # $1 s $2
some .int b $1 $1
gp v $1
Sz n $1
zd '3 $1
zL # # # # * * * # \\3 # * * * # \\3 * * * # \\3 $8
eOp xj # # $3
s L.map rL $1 [1 `++
zA # zA # # $2 $2
.ok .tup # $1 s $2
# \". getD &3proj # '0 $2
Option # $1
decide # $1
# # # rfl # <5
List Addr $1
# List Str $1 : \". Nodup &3proj
fIf # # yY $3
Sto R D $1 ^
p hp # \\2
v.getD # '0 $2
zg # zb zd '0 $1 zm $2 $2
iL v $1
.int # # $2
scope
some .int v.length $1 $1
Or.inl rfl $1
.ok .lst # $1 s $2
some v $1
.str nmR r $1 $1
\"∀ b o @2 @0 \", # &5forall
# \". natAbs &3proj
'2000
zb # zm $2
aN zc '0 $1 zh $2
zE yG # # $3
iL # $1 [1
* # # <3
Or.inr rfl $1
wpAny model X.prog X.w $2 X.A # # X.xe # $6
.int # t $2
.free
# \". trans &3proj # $1
eC .str # $1 $1
.ok .bl true $1 s $2
.int # $1 .int # $1 [2
Value Shared \"Prop &1prop ^ ^
.str x $1
.ok # s' $2
one n $1
v.getD i '0 $2
some .int k $1 $1
# \". elim &3proj
ρ s # \". bind &3proj # $1 \\2
some rD # $1 $1
X.calm true `=
some .int far $1 $1
at2 L # a $3
* # rfl <3
.ok # s2 $2
some .str nmR r $1 $1 $1
some '1 $1 none [2
Bool
some tD # $1 $1
_h # # <2 $1
autoParam # false `= aDe $2
.ref p $1
yz T.q # rfl $2 # hr hc # \\2 # $4
H a $1 some # $1 `=
yh '1 $1
\"Type @0 &2type
b hb # \\2
s.length
zb # zb zd # $1 zm $2 $2
# rfl <2
.lst vs $1
o # # <3
Hp \"Prop &1prop ^
r_k hr aN zc '0 $1 # $2 $2
yb X N' scope ex s H $6
.nil
zb zd # $1 zm $2
L.getD # [0 $2
Array Value $1
decide # # `≠ $1
some .int thin $1 $1
wpAny model prog # $2 # # # # # $6
d3 a # # # # # # # # $9
d3 a b # # # # # # # $9
uP zb # zb # zm $2 $2 $1
h.get? # $1 some o $1 `=
r hr # \\2
\"\"__debug__\" %1str Str :
zg # zb zd # $1 zm $2 $2
Inv X ae O # # $5
r.getD # '0 $2
.lst xs $1
_e.mp # $1 \". \"1 %1fieldIdx &3proj
zT zd '0 $1 $1
aO # zh $2
aQ # zh $2
H b $1 some # $1 `=
Rep mg H Y s $4
OpF X E r # $4
Mof # '1 # $3
zg # zb zd '0 $1 zb zd '1 $1 zm $2 $2 $2
absurd # # $2
y hy # \\2
\"\"_law_number\" %1str
others v $1
List Value $1
.ok .bl false $1 s $2
.inl rfl $1
dIx # .int # $1 # $3
zj st $1
Mof # '2 # $3
_r e $1
# \". push &3proj # $1
\"\"rule\" %1str
D.flat.flats # $1 true `=
.type \"\"list\" %1str $1
okR.bind # $1 \". imp &3proj # $1
\"\"thing\" %1str [1
List Addr Obj `× $1
eOp dIx # # $3
autoParam # true `= aRf $2
lt # # $2 true `=
at2 L k a $3
.Call .Name # # $2 # [0 pos $4
s.heap.get? # $1 some o $1 `=
lp v $1
x.natAbs '2 # `^ `<
\"\"tuple\" %1str
V9 # # s.length # # # # # # $9
Option Int $1
.bl false $1
\"\"rule\" %1str \"\"lot\" %1str [2
# e <2
some .int gp v $1 $1 $1
some .cell $1
stp r v $2
# '1000 `≤
h'.get? # $1 some o $1 `=
z02 # zp # $1 yE $3
.int '0 $1
vs.length
ys.length
stp.rep
h.toLot
.type \"\"tuple\" %1str $1
List Str # `× $1
zA # zA # zA # zA # # $2 $2 $2 $2
X.mg # $1 none `=
# [0 <2
some # $1 none none [3
CX1 P w $2
L.getD k [0 $2
okR mg E # # # # # $7
s.heap.objs.size '1 `+
OpR X compareOp # $1 # $3
\"( ! &2hygienicLParen false \", eval e X.env $2 @1 @3 \") &3tuple
Value
pure # $1
body
k.toNat
\"\"_law_other\" %1str
\"\"_law_lot_here\" %1str
# Nat :
\"( ! &2hygienicLParen false \", eval # X.env $2 @1 @3 \") &3tuple
decide # # `< $1
some .lst qs.map pD $1 $1 $1
z1M eC .int '1 $1 $1 $1
some x $1
.frz o # $2
kev # lt # $3
autoParam backTo pos starEach # X.env $2 $2 \". any &3proj # $1 false `= aRf $2
f ρ s $2 \". bind &3proj d s1 # \\2 $1
zg # zb zd '0 $1 zb # zm $2 $2 $2
L.getD a [0 $2
pre # `++ \". map &3proj rD $1
List # $1
\"\"list\" %1str
# \". objs.size &3proj
_w.mp # $1
\"\"line\" %1str
\"\"_law_one\" %1str
d ρ s # \". bind &3proj ρ' s' # \\2 $1 \\3
zi # zi # # $2 $2
tOf eOp dNe zd # $1 # $3 $1
.inr # # <2 $1
z3D hu $1
.loc l $1
jB zb zd # $1 zm $2 $1
.ex c s $2
ended v $1 false `=
\"\"int\" %1str
\"\"table\" %1str
\"\"_law_place\" %1str
Shared \"Prop &1prop ^
.ref l $1
VK \"Prop &1prop ^
.scr iL ns $1 $1
zg zW zb zv # # yh # $1 zZ # $5 zm $2 $2
det '4 # $2
SqT # H # # $4
ls.map rD $1 # [2
.cons # # $2
.fields # $1
I.hok
vs.toArray
R.ok # # $2
ρ s # \\2
\"\"_law_at\" %1str
h.ne
h.get? # $1 some # $1 `=
r_k hr aN zc # $1 # $2 $2
zg # zb # zb zd # $1 zm $2 $2 $2
.bl true $1
h.here r # $2
List Option Nat $1 $1
# # # # os <5
.int b $1
.lst iL # $1 $1
eSl # yy # $1 zD $3
# Bool ^
yc z4Y hu $1 # # $3
LotB n m v $3
# \". get? &3proj # $1 some # $1 `=
Gl X x $2
dot r # $2
H b $1 none `=
tOf eOp dEq # # $3 $1
X.base
# \". toNat &3proj
Tab n # $2
# # rfl # <4
.ok .non s $2
aK zq zh $2
List α $1
zK r ls $2 \". map &3proj tD $1
some # $1 some # $1 none [3
some .int # Nat : $1 $1
i v.length `<
RE X E e # $4
\"\"range\" %1str
af.toArray
'1000
X.mg
* * * # \\3
.Call # # # # $4
ns.length
i hi # \\2
\"\"_law_pot_here\" %1str
'1000000000000000000000000000000
eOp dIx zd # $1 # $3
# \". map &3proj rD $1
zp zQ # $1 $1
Array Nat $1
.Name x # $2
Option D $1
some # $1 some # $1 # none [4
.Name # p2 $2
zg yM zb zd '0 $1 zm $2 $2
wpAny # # # # # s $6
xq v.length i $2
v.getD b '0 $2
zb # zb # zb # zb # # $2 $2 $2 $2
upd H p # $3
v.getD '0 '0 $2
jC r v $2
kH mg # # ρ O $5
\"\"bool\" %1str
s.toks
\"\"_law_size\" %1str
\"\"_law_rule\" %1str
h.nn
s.heap.get? # $1 some # $1 `=
.ref s.heap.objs.size $1
\"λ k @1 \": Nat &2typeSpec @1 \"=> D.int # $1 &4basicFun &2fun
# \". map &3proj tD $1
X.env.scope.names.lookup # $1 some .local $1 `=
List List Int $1 $1
left v # # $3
z47 tOf # $1 $1
Sto R # $1 ^
RE X E # fa $4
# \". map &3proj rL $1
.int a $1
H' # $1 none `=
fb ρ s1 $2
.ListComp az # scope pos $4
z2M v $1
Den mg H Y d v $5
xK # zq $2
Run r # ls $3
yz T.q # rfl $2 # hr * # \\2 # $4
V9 t n s.length some .int a $1 $1 x4 x5 # x7 x8 $9
at2 L # a $3 \". natAbs &3proj
\"\"turn\" %1str
\"\"str\" %1str
o.cls
# \". filter &3proj # $1
\"\"_law_line\" %1str
wpAny model # # $2 # # # # # $6
List.toArray List.range # $1 $1
h'.get? # $1 some # $1 `=
Hs # # # # base # # # # $9
W.nsIn # mainGlobals # $3
List # # `× $1
starEach # env $2
rfl # <2
absurd rfl # $2
aK zq # $2
ps.getD i # $2
yj mg # # # # $5
decide # # `= $1
eOp dIx zd # $1 zd '0 $1 $3
* # <2
X.N @0 \"[ i \"] @0 \"? %7term__[_]_? some # $1 `=
eSl # zD yy # $1 $3
OpR X binaryOp # $1 # $3
eval o X.env $2
z4B # yh # $1 # $3
.ok # s L.map rL $1 [1 `++ $2
tg iter aC # <4
fa ρ # $2
H p $1 none `=
.Name y py $2
rD v $1 [1
eOp dEq # # $3
\"\"enumerate\" %1str
\"\"isinstance\" %1str
b o e # \\3
s'.heap
O H Q # \\3
_o.mp # $1
D.tup # $1
lexN # # $2
back # $1
X.env.cells.lookup # $1 some # $1 `=
List Keyword $1
tOf eOp # # # $3 $1
# # rfl # # <5
_h rfl $1
I.hok # * # $3
.dK ah $1
zi # zp zQ # $1 $1 $2
.ok .loc s.length $1 # $2
eOp xj zd # $1 eC .int '1 $1 $1 $3
eOp dIx zd # $1 eC .int '0 $1 $1 $3
.ok tD # $1 s $2
Tab n T $2
zi # zi # zp zQ # $1 $1 $2 $2
_an * $1
_v * rfl $2
mvd r # $2
upd H a # $3
some .loc L $1 $1
\"\"NoLot\" %1str
\"\"NoRule\" %1str
askQ
items
i.natAbs
List.replicate # # $2
names
\"\"by\" %1str
getD_mem # $1
eval # X.env $2
T.q # rfl $2
I.ok.hd hc $1
.BoolOp # # pos $3
okR.here # r # $3
some rL # $1 $1
maxL others v $1 $1
xZ # T.f13 # $3
X.fn # $1 true `=
nz # $1 \". length &3proj
B.eraseIdx k $1 \". map &3proj rD $1
yO v deal r v $2 $2
tOf eOp dNe # # $3 $1
# \". all &3proj x # \\1 $1
yj mg H Y xs vs $5
some d $1 some e $1 [2
zg yM zb zd # $1 zm $2 $2
xK zc '2 $1 # $2
mg # $1 none `=
some # $1 some # $1 some # $1 none [4
eOp yT zd # $1 # $3
.ok .nx # $1 s1 $2
V9 t n s.length some .int a $1 $1 x4 x5 # # # $9
ki n zK r ls $2 $2
.bl b $1
z1L k # $2
dot # v $2
xn # af $2
at2 L # j $3
z17 T # j $3
x H1 # \\2
.Tuple # # # $3
x y H Q # \\4
items.size
\"\"_law_found\" %1str
\"∀ d e @2 \": D &2typeSpec @1 \", # &5forall
'1999
List.replicate # # $2 \". flatten &3proj
backTo # starEach # X.env $2 $2
ns.map V.int $1
upd H # # $3
Sco # s.heap # # $4
C.map rD $1
some .builtin # $1 $1
at2 L # # $3 \". natAbs &3proj
\"\"lot\" %1str [1
r_k hr aN zc '0 $1 zh $2 $2
z9X rsX # zd '0 $1 $3
K.In h $1
zaG # # # T.f8 # # # $7
# \". getD &3proj # [0 $2
xK zc '1 $1 # $2
z0L T.FM # # T.f8 # zc '0 $1 $6
xG st $1
inner mp O $2
model prog w $2
o.data
iter
s.heap.push # $1
NameKind.free
d hd # \\2
HT.sIx xs.length # # $3
Loc X.env.scope # $2
\"if # \"then # \"else none %6termIfThenElse
autoParam # aLr $2
ns.map D.int $1
en.mono stp $1
.inr .inr # $1 $1
pt.map tD $1
# \". isSome &3proj true `=
\"( ! &2hygienicLParen \"( ! &2hygienicLParen \"\"NotFair\" %1str Str : \", # Str : @1 @3 \") &3tuple \", false @1 @3 \") &3tuple
\"( ! &2hygienicLParen \"( ! &2hygienicLParen \"\"NoTable\" %1str Str : \", # Str : @1 @3 \") &3tuple \", false @1 @3 \") &3tuple
I.tok * $1
.lst ys $1
op2 vr rfl $1 # $2
\"( ! &2hygienicLParen \"( ! &2hygienicLParen \"\"NoRule\" %1str Str : \", # Str : @1 @3 \") &3tuple \", false @1 @3 \") &3tuple
maxL v $1
starEach es X.env $2
some i $1
Gl X # $2
\"( ! &2hygienicLParen \"( ! &2hygienicLParen \"\"NoLot\" %1str Str : \", # Str : @1 @3 \") &3tuple \", false @1 @3 \") &3tuple
Tab n A $2
some .Constant .str # $1 # # $3 $1
some rD u $1 $1
\"\"ValueError\" %1str
s.abs
\"\"zip\" %1str
xs.set # # $2
# \". isSome &3proj
X.pn
I.free
ae s O H Q I h # \\7
name
s1.heap.objs.size
af.toArray.size
ds s1 # \\2
\"\"number\" %1str
\"\"_law_some\" %1str
\"\"_law_many\" %1str
r_k hr # $2
# X.env.locals `≠
List.range n $1
* * False \\2
p D.tup # $1 \\1
ns.getD # '0 $2
none none [2
Q.getD # '0 $2
minL nz # $1 $1
# \". set &3proj # some # $1 $2
okR # E # # # # # $7
at0 p n0 $2
xn xs us $2
yj mg H Y ds vs $5
valS # w $2
wE zc '0 $1 $1
eOp yT # # $3
some .loc s.length '1 `+ $1 $1
\"\"all\" %1str
\"\"NoTable\" %1str
\"\"NotFair\" %1str
h.objs.size
List.range # $1
X.fs
I.bare
s₁
I.kIn
i.toNat
_aw.mp # $1
z.symm
xs s1 # \\2
ag.rep
this
\"\"lines\" %1str
\"\"_law_table\" %1str
\"\"_law_thing\" %1str
h.row # # $2
h.sz
w.withFollow \"\"special-get-raises\" %1str # $2
we # .builtin # $1 # $3
some .loc S.length $1 $1
zK r ls $2
Array.mk [0 $1
List.zip # # $2 \". map &3proj # $1
eOp xj zd # $1 # $3
hd.getD a # $2
List Nat $1
.Constant # j # $3
# \". lookup &3proj # $1 some # $1 `=
T.getD # [0 $2
.Tuple # kt # $3
ρ.set i # $2
z.getD # '0 $2
.str \"\"next\" %1str $1
o e zG # # # $3 \\2
.head * $1
_U # rfl rfl # $4
# \". map &3proj s # \\1 $1
decide # # `≤ $1
X.env.locals
I.os
args
scope.names.lookup # $1
af.length
items.length
maxL # $1
minL # $1
acc.length
qs.length
Dd.D.int # $1
L.set # # $2
autoParam # aDe $2
at2 # # # $3 \". natAbs &3proj
vs.toArray.zip vs.toArray $1
* # H Y s ds vs Q r hd h # \\9 <3
W.boot_heap w.params $1
p.toList.map i # \\1 $1
.type \"\"dict\" %1str $1
zcS # # v.length # $4
f ρ s $2 \". bind &3proj # $1
LCg.lst af $1
scope.kind .function `=
A.deeper envOfC # # s.heap.objs.size # # $5 $1
zv # # yh # $1 zZ # $5
_t.mp hr $1
_t.mp hx $1
eval # env $2
some cA $1
xn # us $2
Den gm X $1 $1
Den mg H Y # # $5
.type T $1
.ref it $1
Binds # fd # # $4
z7E hr z1G # $3
xs.length cap `≤
yb # N' scope # s₃ # $6
z31 zq $1
eOp z7h zd # $1 # $3
some tD jC r v $2 $1 $1
za2 X.N scope.names # # $4
zE yG # zq $3
elim # hd # # $4
aN zc # $1 aN zc '1 $1 zh $2 $2
X.outer
b o hb e # \\4
j.toNat
codeAny # # # # # $5
j.natAbs
ρ d s1 # \\3
maxL_mem # $1
\"\"thing\" %1str
\"\"numbers\" %1str
\"\"_law_numbers\" %1str
\"\"_law_lines_here\" %1str
List.zipWith # # # $3
s0.length
yp.nd
h.natAbs
aN zc # $1 # $2
seqObj \"\"list\" %1str # # $3
Inv X ae # # # $5
bootBuiltins # $1 some # $1 `=
ixN xs.length # $2
Dd.D.int '0 $1
xs.foldl # x $2
absurd # _aF # $1 $2
RV # # s.length # # $5
Passes CX # # $3
aK xF aK xF # $2 $2
.str \"\"least\" %1str $1
O H Q t # # # $3 \\3
vals1 r $1
zR # zP.nd # $3
foldedSetIterable iter X.env # $3
Nat Bool ^
.bool b $1
# # # none none [5
I.pin p # $2
zn # $1 \". trans &3proj # $1
_bb # I.kIn # # # # $6
pure x $1
autoParam \"∀ x @1 @0 \", # &5forall aIr $2
z1B hd $1
iL acc $1 [1
z3n # z4H # $1 $2
.dT ah $1
left v yO v deal r v $2 $2 # $3
wZ # rfl $2
\"\"sorted\" %1str
\"\"DrawError\" %1str
Value.ref # $1
xs.drop # $1
bootBuiltins # $1
X.ex
I.len
I.freeC
I.tuple # $1
D O H # \\3
True.intro
NameKind
v hv # \\2
scope.names
ht.typeIs
.dict # $1
ρ x s1 # \\3
IsPair # # # # $4
L2.Inv # # # # # $5
\"\"column\" %1str
\"\"places\" %1str
\"\"_law_more\" %1str
l.length
B.map # $1
M.lt
i hi j # \\3
B.eraseIdx k $1
s.heap.update # Obj.mapSeq # $1 $2
List.replicate v.length # $2
Inv X ae O H # $5
z0E i j d t H Q e q # \\8 $1
wpAny model X.prog X.w $2 X.A # # # # $6
attributeBase # # X.env # $4
PyData.canLay0 # $1 true `=
sIx items.size # # $3
tuples' true $1
.type \"\"range\" %1str $1
# \"\"__name__\" %1str `≠
\"∀ ex s H @3 @0 \", zcd # # # $3 &5forall
dn.mono ag $1
zv # # # zZ # $5
\"∀ ex s H @3 @0 \", PG # # # $3 &5forall
I.list hq $1
ps.zip us $1
b o e _g # # $2 \\3
we # .builtin # $1 xs H Q # \\3 $3
O.set # some v $1 $2
dII i j # \\2 $1
listOf s # $2
LotB n '104 v $3
_ad hp $1
.ok .ret # $1 $1
some .lst nL ps $1 $1 $1
some rL hd $1 $1
xh vr rfl $1 $1
mainGlobals
Addr
X.stack
I.loc
s₂
False.elim # $1
I.kept # $1
\"\"size\" %1str
\"\"_law_script\" %1str
'2147483587
x.natAbs
q.len
PyData.depth # $1
L.map rL $1
.loc s.length $1
List Option # $1 $1
deal r v $2
cellsFrom # scope.names # $3
s.heap.push itO # # $2 $1
I.hok.fresh _k # $1 $1
swapsWith # # # X.env $4
seqObj \"\"list\" %1str vs.toArray # $3
autoParam # aOr $2
vs.length ps.length `=
env.kindOf n $1
.Subscript # # pos $3
some .loc s0.length $1 $1
tb.lookup k $1
.Attribute # # ap $3
env.scope.kind .function `==
e.trans h1 $1
pure false $1
frs outer $1
# rfl # # <4
det '4 # $2 \". natAbs &3proj
i j .int # $1 \\2
r.drop n $1
List Env $1
z7c # T.f18 # $3
d.flat true `=
_M.mp # $1 \". elim &3proj # # $2
A.getD # [0 $2
V.ref b $1
l.map f $1
l.map g $1
\"\"one\" %1str \"\"other\" %1str [2
zR # qZ.nd # $3
aK zq aK zq zh $2 $2
.Name x pos $2
List Str Str `× $1
List Int Int `× $1
deal .tu v $2
K.lookup # $1
\"\"BaseException.__getattribute__\" %1str
W.kitOne # # # $3
\"\"by_next\" %1str
\"\"by_least\" %1str
\"\"by_all\" %1str
\"\"by_turn\" %1str
\"\"are_weights\" %1str
\"\"weights\" %1str
seenQ # $1
prog
us.length
xs.take # $1
I.ok
_M.mp # $1
False
ae s O H D I h # \\7
# \". toArray &3proj
cLine
s₁.heap
r.map # $1
_ac.mp # $1
mg.K
h.imp # # $2
ρ xs s1 # \\3
FlV.nx # $1
\"\"tables\" %1str
\"\"_law_top\" %1str
ended # $1
deal # v $2
\"if # \". isEmpty &3proj \"then # \"else # %6termIfThenElse
A.handled none `=
I.tuple hq $1
List Stmt $1
T.map rD $1
call2 # vr rfl $1 $2
A.mark some .ref # $1 $1 $1
ended v $1
maxL ns $1
OpR X binaryOp .Mult $1 # $3
I.cell # c # $3
backToKw # keywordEach # X.env $2 $2
\"\"dict\" %1str
\"\"max\" %1str
\"\"min\" %1str
\"\"Ended\" %1str
\"\"NoBottom\" %1str
\"\"NoCube\" %1str
\"\"NoDeed\" %1str
\"\"NoNumber\" %1str
\"\"NoRoot\" %1str
\"\"NoRow\" %1str
\"\"NoSize\" %1str
\"\"NoStep\" %1str
\"\"NoText\" %1str
\"\"NoTuple\" %1str
\"\"NotAlike\" %1str
\"\"TooMany\" %1str
Shared
xs.map # $1
I.ok.above
I.hok # # # $3
I.base
I.cell
_e.mp # $1
holding # # $2
pos.line
I1.kept # $1
# \". lookup &3proj # $1
IsPart # # $2
HT.sIx # # # $3
r.drop # $1
xs.all # $1
loose
s₃.heap.objs.size
ρ.length
okR.here # # # $3
b.length
s2.set # # $2
maxL_ge # # $2
bools # $1
List.range' # # $2
l.map # $1
x.toNat
lexLt # # $2
L.map # $1
p.size
\"\"own\" %1str
\"\"_law_own\" %1str
\"\"_law_by\" %1str
\"\"_law_later\" %1str
\"\"_law_due\" %1str
T.map # $1
v1.length
y.natAbs
ps.map # $1
Pg.xf
hr hc # \\2
g.row # # $2
q.natAbs
k h1 h2 # \\3
.builtin \"\"object.__class__\" %1str $1
\"∀ \"( w @1 \": World @2 @0 \") &5explicitBinder \"( os @1 \": OsState @2 @0 \") &5explicitBinder @2 @0 \", # some # $1 `= &5forall
LotB n # # $3
sc.names.lookup x $1
assignEach # X.env $2
h.Ns mainGlobals # $2
h1.here stp.rep # $2
.seq af.toArray # $2
zcB # scope.names # $3
ys.length sizeLine `≤
s.heap.push seqObj \"\"list\" %1str # # $3 $1
I.base.there b # # # $4
model X.prog # $2
Option Addr $1
Bn.tup x hx # \\2 $1
# \". update &3proj s.heap.objs.size Obj.mapSeq # $1 $2
K.lookup a $1
W.keepIn # .ref # $1 $2
.seq # \". toArray &3proj $1
v.foldl cg # $2
s₁.heap.get? # $1 some # $1 `=
hr # getD_mem # $1 $2
seqObj \"\"tuple\" %1str vs.toArray # $3
Gl X \"\"range\" %1str $2
ps.getD j # $2
x.fdiv h $1
toPys xs $1
_o.mp hx $1
ls.length '50000 `≤
absurd z # $2
h.step r # $2
start # vs $2
RW.rt zk4 # # $2 $1
af.toList
\"\"__class__\" %1str
Sum.inl # $1
.local
* * * H * I h # \\7
pyNext # $1
b hb o e # \\4
A.units
s.TypeIs # # $2
ns.map # $1
yj.cons # # $2
D.int
b.toNat
findBy # # # $3
Cx.at_ # # # $3
ExcCls # # $2
arrOf # $1
z.length
kasC_bind # $1
\"\"_law_total\" %1str
'2147483629
\"\"_law_lots\" %1str
\"\"_law_tables\" %1str
\"\"_law_row\" %1str
Pm.dot # # $2
u.length
ls.length
\"λ p @1 \": Int Int `× &2typeSpec @1 \"=> # &4basicFun &2fun
K.map # $1
call2 # # $2
getD_get # $1
Q.length
\"\"_law_e\" %1str
T.f17
yC.nd
wf.nd
L.drop # $1
envOfC # # s.heap.objs.size # # $5
ls.map rD $1
List.range v.length $1
List.zipWith line q # \\2 # # $3
W.openGood # looseQ $2
behindInMarks op # $2
zg zW zb # zm $2 $2
one qs.length $1
stp # v $2
yj mg H Y # vs $5
some .loc S0.length $1 $1
Ms.lookup y $1
ns.idxOf k $1
ap.endLine ak.line `==
_U # # rfl # $4
call .builtin # $1 # $2
\"∀ ex s H @3 @0 \", RE # E # # $4 &5forall
r.take n $1
h.get? # $1
W.SharedT
PySem.Challenge.pw_drawndown_k21_weights_looked_at_and_told
W.boot_drawn
W.boot_toks
Paired # # # $3
I.base.keep # # # # # # $6
I.base.slot # # # # # # $6
b o e n hb hx # \\6
I.ok.kind
s'.os
isTrue # # # $3
X.wish # $1
s1.heap.push # $1
s1.heap
# \". contains &3proj # $1
* * * * * * * q # \\8
A.depth
BindsTo # # # # $4
bindArgs # # $2
kindOf
Builtin.Slice.slicePlaces # # # $3
x lo hi H Q # \\5
pl.isList
callerA
aF.line
Y.length
r.cell # # # $3
ds.length
e.trans # $1
bs.length
intsOf # $1
_ah.mp # $1
x.bind # $1
vs H Q E h # \\5
dif_pos # $1
s1.take # $1
sT.abs.heap
xs.size
Cx.mk_ # # # $3
ρ s a s' e # \\5
kas_item # $1
p.toList.Perm # $1
kas_count # # $2
kas_st # # # $3
\"\"at_column\" %1str
\"\"place\" %1str
\"\"greatest\" %1str
\"\"others\" %1str
\"\"quotients\" %1str
\"\"_law_k\" %1str
\"\"_law_mine\" %1str
\"\"_law_sides\" %1str
\"\"_law_most\" %1str
\"\"_law_quotients\" %1str
\"\"_law_far\" %1str
A.length
v.idxOf # $1
_cH.mp # $1
uN.mpr # $1
h.nzne
dl.lt
h.le4
Pm.getD_mem # $1
d e hd he # \\4
LeS.calm
S.length
Has.mono # # $2
xz.nd
m.natAbs
g.len
B.zipIdx # $1
some .loc # $1 $1
Den mg # # # # $5
.of_wp prog w A R s h # \\6 $1
LeS.seq LeS.calm # $2
AllBare s'.gens $1
* * h' h'.elim \\3
False.elim hq $1
Txt.slice # # none $3
List.take n $1
Option Bool $1
Option Dd.D $1
Array Keyed $1
z7E hr # # $3
kev ps.length # # $3
LeM.mof LeS.seq # # $2 $1
.Subscript # # p1 $3
qs.filter a # \\1 $1
ys.getD # .non $2
L'.map rL $1
pure true $1
Heap.FlyingW # # ea # # # $6
IntsAre # ns $2
h1.here r1 # $2
absurd # _av $2
eIs \"\"tuple\" %1str # $2
.Subscript a # # $3
I.base.free b # # # # $5
r.take j $1
# \". eraseIdx &3proj k $1
AllBare # $1
dn.mono # $1
minL_mem # $1
List.zip # # $2
Bn.tup # $1
T.f13
zP.nd
\"∀ \"( kV aE pm @3 \": Value @2 @0 \") &5explicitBinder \"( an @1 \": Option Addr @1 &2app @2 @0 \") &5explicitBinder \"( aj ct @2 \": Value @2 @0 \") &5explicitBinder \"( us @1 \": List Value @1 &2app @2 @0 \") &5explicitBinder @4 @0 \", # # ^ &5forall
pushCells # scope.names $2
p.toList.Pairwise i j # \\2 $1
X.s₀.heap.get? b $1
kas_sort ps.length $1
swapsWithSole # # pos.line # $4
I1.fpOk # I1.hok.fresh # $1 $2
s'.heap.get? acc $1
swappedStores # # X.env $3
Y1.take Y.length $1
List.range # $1 \". filterMap &3proj # $1
LeS.drop LeE.call # $1 $1
s.heap.IsSliceOf sl # # # $4
Array GenState $1
X.base.get? b $1
\"∀ \"{ ds @1 \": List D @1 &2app @2 \"} &4implicitBinder \"{ vs @1 \": List V @1 &2app @2 \"} &4implicitBinder @2 @0 \", # # ^ &5forall
strKind X.prog # $2
p.toList.length # `=
uN.mp minL_mem # $1 $1
List.lookup x # $2
Option Expr $1
bs.idxOf k $1
Option Str $1
xs.all isI $1
ym j.toNat $1
.function
w.params
treeTable
I.hok.fresh # $1
cellsFrom # # # $3
LCg.lst # $1
D.flat.flats # $1
Prod.fst
\"∀ \"( aj @1 \": Value @2 @0 \") &5explicitBinder \"( A @1 \": Around @2 @0 \") &5explicitBinder \"( outer @1 \": List Env @1 &2app @2 @0 \") &5explicitBinder \"( s @1 \": Shared @2 @0 \") &5explicitBinder \"( H @1 \": Hp @2 @0 \") &5explicitBinder \"( E @1 \": XK @2 @0 \") &5explicitBinder @6 @0 \", # # ^ &5forall
importedModules p.main.body $1
\"∀ \"( names @1 \": List \"( ! &2hygienicLParen Str NameKind `× \") &3paren @1 &2app @2 @0 \") &5explicitBinder \"( acc @1 \": List \"( ! &2hygienicLParen Str Addr `× \") &3paren @1 &2app @2 @0 \") &5explicitBinder @2 @0 \", # # ^ &5forall
Builtin.SmallTypes.nextOf .ref # $1 $1
Builtin.Tuple.tupleExact * $1
ap.endLine # `==
.type \"\"StopIteration\" %1str $1
pure ForInStep.yield # $1 $1
base.Ns mainGlobals # $2
af.toArray.any eqU # $1 $1
Rn.fair h.toLot $1
qs.map Prod.fst $1
z9W # # s2 e2 St W st bd bx # \\7 $3
s'.heap.get? b $1
w.withFollow row # $2
zhB X.env.kindOf scope.names $2
LeS.if_ LeS.fNo # $2
Vis X.env.scope # $2
L.map List.drop # $1 $1
.loc s1.length $1
W.kas_sort n $1
sortedAll s.heap # # $3
wpAny_letGo _m # $1 $1
W.topFrom treeTable # # # # $5
failedOf ay $1
qs.Pairwise a b # \\2 $1
bs.getD # false $2
bs.map V.bl $1
.type \"\"object\" %1str $1
frs X.stack $1
env.kindOf # $1
s.heap.get? # $1
I1.hok.fresh # $1
Obj.mapSeq # $1
qs.map pD $1
importedModules # $1
s.heap.update # # $2"
def zL:Array String:=(zTab.splitOn "\n").toArray
def zK(k:Lean.Name)(l:List Lean.Syntax):Lean.Syntax:=.node .none k l.toArray
def zT(k:String)(l:List Lean.Syntax):Lean.Syntax:=zK (.str `Lean.Parser.Term k) l
def zO(s:String):Lean.Syntax:=Lean.mkAtom s
def zI(s:String):Lean.Syntax:=Lean.mkIdent s.toName
def zN(k:Lean.Name)(l r:String)(ys:List Lean.Syntax):Lean.Syntax:=zK k [zO l,zK `null (ys.intersperse (zO ",")),zO r]
def zF(d:Nat)(s:Nat×List Lean.Syntax)(x:Lean.Syntax):Nat×List Lean.Syntax:=(s.1,x::s.2.drop d)
def zG(n:Nat)(s:Nat×List Lean.Syntax):Lean.Syntax:=s.2.getD n .missing
def zX(xs:Array Lean.Syntax)(n:Nat):Lean.Syntax:=xs.getD n .missing
def zS(xs:Array Lean.Syntax)(p:Nat×List Lean.Syntax)(t:String):Nat×List Lean.Syntax:=
 let c:=t.front
 let u:=(t.drop 1).toString
 let g:=u.front.toNat-48
 let w:=(u.drop 1).toString
 let ys:=(p.2.take g).reverse
 let a:=zG 1 p
 let b:=zG 0 p
 let h:=zK `hygieneInfo [Lean.mkIdent .anonymous]
 if c=='#' then (p.1+1,zX xs p.1::p.2)
 else if c=='"' then zF 0 p (zO u)
 else if c=='!' then zF 0 p h
 else if c=='.' then zF 0 p (zT "dotIdent" [zO ".",zI u])
 else if c=='*' then zF 0 p (zT "hole" [zO "_"])
 else if c=='\'' then zF 0 p (zK `num [zO u])
 else if c=='`' then zF 2 p (zK (.mkSimple ("term_"++u++"_")) [a,zO u,b])
 else if c=='^' then zF 2 p (zT "arrow" [a,zO "→",b])
 else if c==':' then zF 2 p (zT "typeAscription" [zT "hygienicLParen" [zO "(",h],a,zO ":",zK `null [b],zO ")"])
 else if c=='<' then zF g p (zN `Lean.Parser.Term.anonymousCtor "⟨" "⟩" ys)
 else if c=='[' then zF g p (zN `«term[_]» "[" "]" ys)
 else if c=='@' then zF g p (zK `null ys)
 else if c=='$' then zF (g+1) p (zT "app" [zG g p,zK `null ys])
 else if c=='%' then zF g p (zK (.mkSimple w) ys)
 else if c=='&' then zF g p (zT w ys)
 else if c=='\\' then zF (g+1) p (zT "fun" [zO "fun",zT "basicFun" [zK `null ((p.2.drop 1).take g).reverse,zK `null [],zO "=>",b]])
 else zF 0 p (zI t)
def zH(xs:Array Lean.Syntax)(p:Nat×List Lean.Syntax):List String->Nat×List Lean.Syntax
 | []=>p | t::l=>zH xs (zS xs p t) l
def zV(c:Char):Nat:=let n:=c.toNat;if n<58 then n+4 else if n<91 then n-39 else n-97
def zP(s:String):String:=zL.getD (match s.toList with | [a,_]=>zV a | [a,b,_]=>52+62*zV a+zV b | _=>10000) ""
def zA(s:String)(xs:Array Lean.Syntax):Lean.Syntax:=
 if s.back != '!' then .missing else
 let r:=zP s
 if r.isEmpty then .missing else
 let p:=zH xs (0,[]) (r.splitOn " ")
 if p.1==xs.size then zG 0 p else .missing
def zC(x:Lean.Syntax)(xs:Array Lean.Syntax):Lean.Syntax:=match x.getId with | .str .anonymous s=>zA s xs | _=>.missing
def zD(x:Lean.Syntax):Bool:=match x.getId with | .str .anonymous s=>s.back=='!' | _=>false
def zE(x:Lean.Syntax):Lean.Syntax:=if zD x then (let y:=zC x #[];if y.isMissing then x else y) else x
def zB(x:Lean.Syntax)(xs:Array Lean.Syntax):Lean.MacroM Lean.Syntax:=if zD x then (let y:=zC x (xs.map zE);if y.isMissing then Lean.Macro.throwUnsupported else pure y) else Lean.Macro.throwUnsupported
end Zd
local macro_rules | `($f:ident $xs*)=>Zd.zB f xs
local macro_rules (kind:=ident) | `($f:ident)=>Zd.zB f #[]
open PySem PySem.Spec PyProof.Rows
noncomputable abbrev _a:=@wpAny_bind
noncomputable abbrev _b:=@List.getElem?_eq_getElem
noncomputable abbrev _c:=@List.getElem?_cons_zero
noncomputable abbrev _d:=@List.getElem?_cons_succ
noncomputable abbrev _e:=@List.getElem?_eq_some_iff
noncomputable abbrev _g:=@Heap.get?_push_of_some
noncomputable abbrev _h:=@if_pos
noncomputable abbrev _i:=@Nat.lt_of_lt_of_le
noncomputable abbrev _j:=@List.length_cons
noncomputable abbrev _k:=@Nat.le_refl
noncomputable abbrev _l:=@List.length_nil
noncomputable abbrev _m:=@wpAny_pure
noncomputable abbrev _n:=@List.getD_eq_getElem?_getD
noncomputable abbrev _o:=@List.mem_iff_getElem
noncomputable abbrev _p:=@List.map_cons
noncomputable abbrev _q:=@if_neg
noncomputable abbrev _r:=@Heap.lt_size
noncomputable abbrev _s:=@List.size_toArray
noncomputable abbrev _t:=@List.mem_map
noncomputable abbrev _u:=@List.mem_of_getElem?
noncomputable abbrev _v:=@Heap.get?_push_size
noncomputable abbrev _w:=@List.mem_cons
noncomputable abbrev _x:=@if_true
noncomputable abbrev _y:=@Option.some.injEq
noncomputable abbrev _z:=@List.getElem?_map
noncomputable abbrev _A:=@List.mem_or_eq_of_mem_set
noncomputable abbrev _B:=@Nat.pow_le_pow_right
noncomputable abbrev _C:=@List.set_cons_zero
noncomputable abbrev _D:=@Nat.ne_of_lt
noncomputable abbrev _E:=@PassesOwn.never
noncomputable abbrev _F:=@List.set_cons_succ
noncomputable abbrev _G:=@List.getElem?_append_left
noncomputable abbrev _H:=@List.mem_cons_of_mem
noncomputable abbrev _I:=@Option.some.inj
noncomputable abbrev _J:=@List.getElem?_eq_none
noncomputable abbrev _K:=@List.getElem_mem
noncomputable abbrev _L:=@Option.bind_some
noncomputable abbrev _M:=@List.mem_append
noncomputable abbrev _N:=@List.mem_append_right
noncomputable abbrev _O:=@PyProof.Rows.slot_tuple_getitem
noncomputable abbrev _P:=@Function.comp_def
noncomputable abbrev _Q:=@Bool.and_eq_true
noncomputable abbrev _R:=@List.mem_of_mem_take
noncomputable abbrev _S:=@List.all_eq_true
noncomputable abbrev _T:=@Int.toNat_natCast
noncomputable abbrev _U:=@wpAny_field
noncomputable abbrev _V:=@List.lookup_cons
noncomputable abbrev _W:=@List.length_map
noncomputable abbrev _X:=@Classical.byContradiction
noncomputable abbrev _Y:=@Nat.le_trans
noncomputable abbrev _Z:=@wpAny_mono
noncomputable abbrev _aa:=@PyProof.Rows.callWith_type1
noncomputable abbrev _ab:=@List.getElem?_set_ne
noncomputable abbrev _ac:=@Bool.and_eq_true_iff
noncomputable abbrev _ad:=@List.of_mem_zip
noncomputable abbrev _ae:=@wpAny_callSpecial?_slot
noncomputable abbrev _af:=@Option.map_some
noncomputable abbrev _ag:=@List.getElem?_set_self
noncomputable abbrev _ah:=@Option.map_eq_some_iff
noncomputable abbrev _ai:=@List.zipWith_cons_cons
noncomputable abbrev _aj:=@List.map_map
noncomputable abbrev _ak:=@List.mem_cons_self
noncomputable abbrev _al:=@List.getElem?_take_of_lt
noncomputable abbrev _am:=@wpAny_setField_rec
noncomputable abbrev _an:=@Nat.zero_le
noncomputable abbrev _ao:=@PySem.mem_of_lookup
noncomputable abbrev _ap:=@Nat.zero_add
noncomputable abbrev _aq:=@wpAny_Call_Name_kw
noncomputable abbrev _ar:=@wpAny_loadPart'
noncomputable abbrev _as:=@List.nil_append
noncomputable abbrev _at:=@wpAny_call_entry
noncomputable abbrev _au:=@decide_eq_true_eq
noncomputable abbrev _av:=@Bool.false_ne_true
noncomputable abbrev _aw:=@beq_iff_eq
noncomputable abbrev _ax:=@Int.natAbs_mul
noncomputable abbrev _ay:=@Nat.mul_le_mul_right
noncomputable abbrev _az:=@List.mem_of_mem_drop
noncomputable abbrev _aA:=@List.sum_cons
noncomputable abbrev _aB:=@Option.getD_some
noncomputable abbrev _aC:=@List.filter_cons
noncomputable abbrev _aD:=@List.getElem?_range
noncomputable abbrev _aE:=@wpAny_newObj_type
noncomputable abbrev _aF:=@Nat.lt_irrefl
noncomputable abbrev _aG:=@Heap.size_push
noncomputable abbrev _aH:=@List.append_nil
noncomputable abbrev _aI:=@List.not_mem_nil
noncomputable abbrev _aJ:=@List.mem_range
noncomputable abbrev _aK:=@congrArg
noncomputable abbrev _aL:=@wpAny_loadPart_at
noncomputable abbrev _aM:=@List.replicate_succ
noncomputable abbrev _aN:=@decide_eq_false
noncomputable abbrev _aO:=@List.length_drop
noncomputable abbrev _aP:=@Nat.lt_or_eq_of_le
noncomputable abbrev _aQ:=@List.ext_getElem
noncomputable abbrev _aR:=@wpAny_holding
noncomputable abbrev _aS:=@List.map_drop
noncomputable abbrev _aT:=@wpAny_truthy_bool
noncomputable abbrev _aU:=@Nat.lt_succ_of_lt
noncomputable abbrev _aV:=@List.length_eq_zero_iff
noncomputable abbrev _aW:=@Array.length_toList
noncomputable abbrev _aX:=@List.map_congr_left
noncomputable abbrev _aY:=@List.getElem_inj
noncomputable abbrev _aZ:=@List.length_append
noncomputable abbrev _a0:=@if_false
noncomputable abbrev _a1:=@F.slot_tuple_iterator_next
noncomputable abbrev _a2:=@wpAny_seqItems
noncomputable abbrev _a3:=@Int.mul_ediv_add_emod
noncomputable abbrev _a4:=@Int.mul_neg_of_neg_of_pos
noncomputable abbrev _a5:=@wpAny_passesOwn
noncomputable abbrev _a6:=@List.foldl_cons
noncomputable abbrev _a7:=@List.cons.injEq
noncomputable abbrev _a8:=@Int.emod_nonneg
noncomputable abbrev _a9:=@List.mem_append_left
noncomputable abbrev _ba:=@List.map_set
noncomputable abbrev _bb:=@W.kia_one
noncomputable abbrev _bc:=@List.getElem?_replicate
noncomputable abbrev _bd:=@Option.bind_eq_some_iff
noncomputable abbrev _be:=@Int.mul_nonneg
noncomputable abbrev _bf:=@List.map_zipWith
noncomputable abbrev _bg:=@Nat.pow_add
noncomputable abbrev _bh:=@call_meets
noncomputable abbrev _bi:=@SeqAt.canLay_of_shaped
noncomputable abbrev _bj:=@List.mem_singleton
noncomputable abbrev _bk:=@List.filter_eq_nil_iff
noncomputable abbrev _bl:=@Int.emod_lt_of_pos
noncomputable abbrev _bm:=@Int.lt_of_le_of_lt
noncomputable abbrev _bn:=@List.zip_cons_cons
noncomputable abbrev _bo:=@List.mem_filter
noncomputable abbrev _bp:=@F.slot_int_rmul
noncomputable abbrev _bq:=@Prod.mk.injEq
noncomputable abbrev _br:=@W.kia_tup
noncomputable abbrev _bs:=@F.slot_enumerate_next
noncomputable abbrev _bt:=@List.flatten_cons
noncomputable abbrev _bu:=@List.getElem?_append_right
noncomputable abbrev _bv:=@Calls.evalArgs_plain
noncomputable abbrev _bw:=@Int.fdiv_eq_ediv_of_nonneg
noncomputable abbrev _bx:=@PySem.F.excBase_ValueError
noncomputable abbrev _by:=@Int.natAbs_of_nonneg
noncomputable abbrev _bz:=@Nat.le_of_lt
noncomputable abbrev _bA:=@List.cons_append
noncomputable abbrev _bB:=@List.zipIdx_cons
noncomputable abbrev _bC:=@wpAny_binaryOp_repeat_ref
noncomputable abbrev _bD:=@List.drop_eq_getElem_cons
noncomputable abbrev _bE:=@List.filterMap_cons
noncomputable abbrev _bF:=@Heap.SameBut.update
noncomputable abbrev _bG:=@List.length_pos_iff
noncomputable abbrev _bH:=@List.filter_eq_self
noncomputable abbrev _bI:=@PySem.F.args_tuple_add_2
noncomputable abbrev _bJ:=@wpAny_comprehension_free
noncomputable abbrev _bK:=@PyProof.noPylong_of_log2
noncomputable abbrev _bL:=@Int.dvd_trans
noncomputable abbrev _bM:=@Ne.symm
noncomputable abbrev _bN:=@List.lookup_append
noncomputable abbrev _bO:=@Nat.lt_of_le_of_lt
noncomputable abbrev _bP:=@Int.mul_nonneg_of_nonpos_of_nonpos
noncomputable abbrev _bQ:=@PySem.F.entry_tuple_add
noncomputable abbrev _bR:=@PySem.F.plainAttrs_list
noncomputable abbrev _bS:=@Nat.le_mul_of_pos_right
noncomputable abbrev _bT:=@List.set_eq_take_append_cons_drop
noncomputable abbrev _bU:=@PySem.F.slot_tuple_add
noncomputable abbrev _bV:=@subscriptTail_builtinR
noncomputable abbrev _bW:=@wpAny_Call_method_late
noncomputable abbrev _bX:=@Calls.callWith_builtin
noncomputable abbrev _bY:=@List.append_assoc
noncomputable abbrev _bZ:=@List.reverse_cons
noncomputable abbrev _b0:=@Heap.get?_push_ne
noncomputable abbrev _b1:=@List.take_append_drop
noncomputable abbrev _b2:=@F.typeOf_object_class
noncomputable abbrev _b3:=@List.zipWith_nil_left
noncomputable abbrev _b4:=@wpAny_eqBool_int
noncomputable abbrev _b5:=@List.length_take
noncomputable abbrev _b6:=@typeIs_int
noncomputable abbrev _b7:=@Nat.lt_succ_self
noncomputable abbrev _b8:=@F.slot_tuple_mul
noncomputable abbrev _b9:=@Nat.mul_lt_mul''
noncomputable abbrev _ca:=@Int.mul_le_mul_of_nonneg_right
noncomputable abbrev _cb:=@wpAny_standAt
noncomputable abbrev _cc:=@List.all_cons
noncomputable abbrev _cd:=@listUpdate_at
noncomputable abbrev _ce:=@List.map_take
noncomputable abbrev _cf:=@wpAny_updateSeq_pair
noncomputable abbrev _cg:=@Int.mul_le_mul_of_nonneg_left
noncomputable abbrev _ch:=@or_false
noncomputable abbrev _ci:=@List.map_append
noncomputable abbrev _cj:=@wpAny_execs_nil
noncomputable abbrev _ck:=@List.nodup_cons
noncomputable abbrev _cm:=@F.slot_zip_next
noncomputable abbrev _cn:=@Nat.two_pow_pos
noncomputable abbrev _co:=@entry_tuple_getitem
noncomputable abbrev _cp:=@List.take_succ_cons
noncomputable abbrev _cq:=@Nat.ne_of_gt
noncomputable abbrev _cr:=@Nat.mul_comm
noncomputable abbrev _ct:=@decide_false
noncomputable abbrev _cv:=@Calls.Constant_str
noncomputable abbrev _cx:=@assignInOrder_cons
noncomputable abbrev _cy:=@wpAny_rule
noncomputable abbrev _cz:=@List.mem_filterMap
noncomputable abbrev _cA:=@Calls.spliced_cons
noncomputable abbrev _cC:=@slicePart_none
noncomputable abbrev _cD:=@args_tuple_getitem
noncomputable abbrev _cE:=@wpAny_newTuple
noncomputable abbrev _cF:=@List.getElem_idxOf
noncomputable abbrev _cG:=@and_true
noncomputable abbrev _cH:=@Nat.not_lt
noncomputable abbrev _cJ:=@Int.lt_of_lt_of_le
noncomputable abbrev _cP:=@wpAny_assign_Name
noncomputable abbrev _cQ:=@Calls.spliced_nil
noncomputable abbrev _cR:=@List.take_sublist
noncomputable abbrev _cS:=@wpAny_sequenceKey
noncomputable abbrev _cT:=@F.args_int_rmul_2
noncomputable abbrev _cU:=@Nat.le_of_succ_le
noncomputable abbrev _cV:=@Int.le_refl
noncomputable abbrev _cW:=@Nat.le_succ
noncomputable abbrev _cX:=@seqEpoch_at
noncomputable abbrev _cY:=@Nat.le_succ_of_le
noncomputable abbrev _cZ:=@bne_self_eq_false
noncomputable abbrev _c0:=@Int.gcd_dvd_right
noncomputable abbrev _c1:=@List.ext_getElem?
noncomputable abbrev _c2:=@decide_true
noncomputable abbrev _c3:=@of_decide_eq_true
noncomputable abbrev _c4:=@List.Pairwise.map
noncomputable abbrev _c6:=@wpAny_attempt
noncomputable abbrev _c7:=@wpAny_onRaise
noncomputable abbrev _da:=@wpAny_newList
noncomputable abbrev _dc:=@W.cellsFrom_some
noncomputable abbrev _dd:=@noFill_tuple_add
noncomputable abbrev _de:=@Option.getD_none
noncomputable abbrev _df:=@F.slot_int_index
noncomputable abbrev _dg:=@F.entry_int_rmul
noncomputable abbrev _dh:=@List.prefix_refl
noncomputable abbrev _di:=@Nat.le_add_right
noncomputable abbrev _dk:=@List.mem_toArray
noncomputable abbrev _dn:=@List.getElem_map
noncomputable abbrev _do:=@Int.gcd_dvd_left
noncomputable abbrev _dp:=@Int.dvd_antisymm
noncomputable abbrev _dt:=@codeAny_mono
noncomputable abbrev _du:=@W.callWith_K
noncomputable abbrev _dv:=@wpAny_typeOf
noncomputable abbrev _dA:=@List.map_nil
noncomputable abbrev _dB:=@Nat.sub_self
noncomputable abbrev _dC:=@Int.mul_comm
noncomputable abbrev _dD:=@Int.dvd_zero
noncomputable abbrev _dE:=@Nat.pow_succ
noncomputable section
namespace Dd
noncomputable def dArgs(s:Stmt):Arguments:=match s with
 | .FunctionDef _ a _ _ _ _ _ _ _ _=>a | _=>{posonlyargs:=[],args:=[],vararg:=none,kwonlyargs:=[],kw_defaults:=[],kwarg:=none,defaults:=[]}
noncomputable def zp0(s:Stmt):ng!:=match s with
 | .FunctionDef _ _ b _ _ _ _ _ _ _=>b | _=>[]
noncomputable def zkQ(s:Stmt):Scope:=match s with
 | .FunctionDef _ _ _ _ _ _ sc _ _ _=>sc | _=>{kind:=rV!,names:=[],isGenerator:=false,isCoroutine:=false}
noncomputable def zcl(h:Heap)(a:Addr):W.Frag:=match pM! a with | some o=>[(a,o)] | none=>[]
noncomputable def ztN(h:Heap)(g:W.Frag)(x:Str):W.Frag:=match f2! g x with
 | some (some (.ref f))=>zcl h f++(match pM! f with
   | some ⟨_,_,.func fd,_⟩=>(match fd.code with | .ref c=>zcl h c | _=>[]) | some ⟨_,_,.cls cd,_⟩=>zcl h cd.ns | _=>[]) | _=>[]
noncomputable def gat(h:Heap)(ns:al!):W.Frag:=zcl h lT!++ns.flatMap (ztN h (zcl h lT!))
noncomputable abbrev FV:=Str×Str×Arguments×FuncBody×Scope×lU!×dv! lU!×dG!×lU!×b5!×b5!
noncomputable def zjL(K:W.Frag)(x:Str):bh! FV:=match f2! K x with
 | some (some (.ref f))=>(match mJ! f with
   | some ⟨_,_,.func fd,_⟩=>b! (fd.name,fd.qualname,fd.params,fd.body,fd.scope,fd.globals,fd.closure,fd.defaults,fd.builtins,W.codeIn K fd.code fd.qualname,oD! K f) | _=>none) | _=>none
noncomputable def zqz(x:Str)(st:Stmt):bh! FV:=b! (x,x,dArgs st,.stmts (zp0 st),zkQ st,lT!,[],X!,builtinsNs,c!,c!)
noncomputable def zmA(K:W.Frag)(x:Str):Bool:=match f2! K x with | some none=>true | _=>false
noncomputable def znO(K:W.Frag)(x:Str):df!:=match f2! K x with | some (some (.int i _))=>ig! | _=>none
noncomputable def sameRef:dG!->bh! aN!->b5!
 | .ref f,some (some (.ref g))=>f==g | _,_=>false
noncomputable def zhN:dG!->rS!
 | .str k _=>b! k | _=>none
noncomputable def zaX:eH! dG!
 | .type c=>c==np! | _=>false
noncomputable def zev(K:W.Frag):dZ! DictEntry->al!->f3! Int (rS!×b5!)
 | e::es,y::ys=>(e.hash,zhN e.key,sameRef e.val (f2! K y))::zev K es ys | [],[]=>[] | _,_=>[(0,a!,t!)]
noncomputable def zn7(K:W.Frag)(x:Str)(ys:al!):bh! (b5!×b5!×b5!×b5!×f3! Int (rS!×b5!)):=match f2! K x with
 | some (some (.ref a))=>(match oC! with
   | some ⟨c,d,.dict es _,sl⟩=>b! (zaX c,d.isNone,sl.size==0,a==sysModules,zev K es.toList ys) | _=>none) | _=>none
noncomputable def zrh(w:World)(tb:mG!):bh! (b5!×b5!×b5!×b5!×f3! Int (rS!×b5!)):=b! (c!,c!,c!,t!,tb.map λp=>(PyData.keyHash rW! p.1,b! p.1,c!))
noncomputable def zpV:cR!->bh! g!
 | []=>b! [] | .int i _::r=>(zpV r).map (i::·) | _=>none
noncomputable def ziZ:eH! dG!
 | .type c=>c==dd! | _=>false
noncomputable def zr0(K:W.Frag)(x:Str):bh! (b5!×bh! g!):=match f2! K x with
 | some (some (.ref a))=>(match oC! with
   | some ⟨c,_,.seq af _,_⟩=>b! (ziZ c,zpV oT!) | _=>none) | _=>none
noncomputable def bmV:cR!:=[aF! im!,aF! "Exception",aF! "BaseException",sv!]
noncomputable def z6F(K:W.Frag)(C:Addr):Bool:=match mJ! C with | some ⟨.type t,_,.cls _,_⟩=>t=="type" | _=>false
noncomputable def z8N(K:W.Frag)(x:Str):Bool:=match f2! K x with
 | some (some (.ref C))=>W.excIn K C bmV "ValueError.__new__"&&(W.findIn K aT! "__getattribute__"==b! (hH! mK!)&&(W.findIn K aT! "__getattr__"==b! a! && (W.findIn K aT! oU!==b! (b! om!)&&(W.mroIn K C sv!==b! c!&&(W.mroIn K C (aF! "BaseException")==b! c!&&(z6F K C&&mL! K aT! (aF! im!)==b! c!)))))) | _=>false
noncomputable def z7W(K:W.Frag)(x y:Str):bh! (q5!×q5!):=match f2! K x,f2! K y with
 | some (some (.ref C)),some (some (.ref D))=>b! (W.mroIn K C (q! D),mL! K aT! (q! D)) | _,_=>none
noncomputable abbrev Obs:=l8! FV×dZ! b5!×dZ! df!×l8! (b5!×b5!×b5!×b5!×f3! Int (rS!×b5!))×l8! (b5!×bh! g!)×dZ! b5!×l8! (q5!×q5!)
structure Ask where
 fs:dv! Stmt
 bs:al!
 cs:dv! Int
 ts:dv! mG!
 us:dv! g!
 xs:al!
 ps:f3! (Str×Str) b5!
noncomputable def zdE(q:Ask)(K:W.Frag):Obs:=(q.fs.map λp=>zjL K p.1,q.bs.map (zmA K),q.cs.map λp=>znO K p.1,q.ts.map (λp=>zn7 K p.1 (p.2.map (·.2))),q.us.map (λp=>zr0 K p.1),q.xs.map (z8N K),q.ps.map λp=>z7W K p.1.1 p.1.2)
noncomputable def obsS(q:Ask)(s:Shared):Obs:=zdE q (gat G! (q.fs.map (·.1)++q.ts.map (·.1)++q.us.map (·.1)++q.xs))
noncomputable def valS(q:Ask)(w:World):Obs:=(q.fs.map λp=>zqz p.1 p.2,q.bs.map λ_=>c!,q.cs.map λp=>b! p.2,q.ts.map (λp=>zrh w p.2),q.us.map (λp=>b! (c!,b! p.2)),q.xs.map λ_=>c!,q.ps.map λp=>b! (b! p.2,b! p.2))
noncomputable def z6M(tb:String->bh! Builtin)(p:Program)(w:World)(n₀:Nat)(dF:aN!):Nat->pN!->Thread->bh! pN!
 | 0,_,_=>none | n+1,s,t=>match W.through t with
  | true=>b! s | false=>match W.stepOk n₀ dF t with
   | false=>none | true=>match W.stepT (denote tb) p w s t with
    | some (s',t')=>z6M tb p w n₀ dF n s' t' | none=>none
noncomputable def zoK(l:dZ! Obj):W.BT×Nat:=l.foldl (λa o=>(a.1.ins a.2 o,a.2+1)) (W.BT.nil,0)
noncomputable def zov(P:Params):W.BT:=(zoK (W.boot_heap P).objs.toList).1
end Dd
namespace Dd
noncomputable def zu0(q:Ask):al!:=q.fs.map (·.1)++q.ts.map (·.1)++q.us.map (·.1)++q.xs
noncomputable def zoZ(k:Nat)(q:Ask)(s:Shared):l8! FV:=(q.fs.take k).map λp=>zjL (gat G! (zu0 q)) p.1
noncomputable def znV(k:Nat)(q:Ask)(s:Shared):Obs:=zdE {q with fs:=q.fs.drop k} (gat G! (zu0 q))
noncomputable def zoE(k:Nat)(q:Ask):l8! FV:=(q.fs.take k).map λp=>zqz p.1 p.2
noncomputable def znZ(k:Nat)(q:Ask)(w:World):Obs:=iP! ({q with fs:=q.fs.drop k})
theorem zn2(k:Nat)(q:Ask)(s:Shared):obsS q s=(zoZ k q s++(znV k q s).1,(znV k q s).2):=by
 unfold zoZ znV obsS zdE;rw[<- _ci,_b1];rfl
theorem znk(k:Nat)(q:Ask)(w:World):iP! q=(zoE k q++(znZ k q w).1,(znZ k q w).2):=by
 unfold zoE znZ valS;rw[<- _ci,_b1]
theorem zdZ{o:bh! pN!}{f:eH! pN!}{k:Nat}{q:Ask}{w:World}(h1:o.map (λs=>(f s,zoZ k q in!))=b! (c!,zoE k q))(h2:o.map (λs=>znV k q in!)=b! (znZ k q w)):o.map (λs=>(f s,obsS q in!))=b! (c!,iP! q):=by cases o with
 | none=>cases h1 | some s=>
  simp only[_af,_y,_bq]at h1 h2;simp only[_af,zn2 k,znk k,h1.1,h1.2,h2]
end Dd
namespace aZ
open Dd
noncomputable def top(i:Nat):Stmt:=PySem.Challenge.pw_drawndown_k21_weights_looked_at_and_told.main.body.getD i (.Pass ⟨0,0,0,0⟩)
noncomputable abbrev z6H:Stmt:=top 22
noncomputable abbrev z5Y:Stmt:=top 24
noncomputable abbrev kJ:Stmt:=top 29
noncomputable abbrev z5r:Stmt:=top 37
noncomputable abbrev z1v:Stmt:=top 39
noncomputable abbrev z2h:Stmt:=top 41
noncomputable abbrev z8q:Stmt:=top 43
noncomputable abbrev z8o:Stmt:=top 44
noncomputable abbrev vL:Stmt:=top 46
noncomputable abbrev z1m:Stmt:=top 47
noncomputable abbrev z8B:Stmt:=top 48
noncomputable abbrev z82:Stmt:=top 54
noncomputable abbrev ze5:Stmt:=top 61
noncomputable abbrev z0e:Stmt:=top 72
noncomputable abbrev z76:Stmt:=top 73
noncomputable abbrev z4m:Stmt:=top 74
noncomputable abbrev z1R:Stmt:=top 76
noncomputable abbrev z3B:Stmt:=top 77
noncomputable abbrev z1O:Stmt:=top 78
noncomputable abbrev z2B:Stmt:=top 80
noncomputable abbrev z6k:Stmt:=top 81
noncomputable abbrev z5V:Stmt:=top 85
noncomputable abbrev z2H:Stmt:=top 86
noncomputable abbrev z5p:Stmt:=top 88
noncomputable abbrev z0c:Stmt:=top 93
noncomputable abbrev z1N:Stmt:=top 23
noncomputable abbrev z1h:Stmt:=top 38
noncomputable abbrev z3X:Stmt:=top 42
noncomputable abbrev z8g:Stmt:=top 49
noncomputable abbrev z5z:Stmt:=top 50
noncomputable abbrev zay:Stmt:=top 51
noncomputable abbrev z8z:Stmt:=top 52
noncomputable abbrev z3R:Stmt:=top 55
noncomputable abbrev z6C:Stmt:=top 75
noncomputable abbrev z5J:Stmt:=top 79
noncomputable abbrev z0g:Stmt:=top 82
noncomputable abbrev z4l:Stmt:=top 83
noncomputable abbrev jM:Stmt:=top 87
noncomputable abbrev z0N:Stmt:=top 89
noncomputable abbrev z1e:Stmt:=top 90
noncomputable abbrev z6q:Stmt:=top 91
noncomputable abbrev z3O:Stmt:=top 94
noncomputable abbrev zbM:Stmt:=top 26
noncomputable abbrev z5R:Stmt:=top 32
noncomputable abbrev z6u:Stmt:=top 60
noncomputable abbrev z85:Stmt:=top 68
noncomputable abbrev z1T:Stmt:=top 84
noncomputable abbrev z46:Stmt:=top 92
noncomputable abbrev z5t:Stmt:=top 27
noncomputable abbrev z2m:Stmt:=top 33
noncomputable abbrev zas:Stmt:=top 28
noncomputable abbrev z3J:Stmt:=top 30
noncomputable abbrev z2a:Stmt:=top 34
noncomputable abbrev z2L:Stmt:=top 35
noncomputable abbrev uR:Stmt:=top 56
noncomputable abbrev z1c:Stmt:=top 36
noncomputable abbrev qH:Stmt:=top 40
noncomputable abbrev z4k:Stmt:=top 57
noncomputable abbrev z1a:Stmt:=top 67
noncomputable abbrev zg3:Stmt:=top 58
noncomputable abbrev z2n:Stmt:=top 59
noncomputable abbrev zlh:Stmt:=top 62
noncomputable abbrev z3P:Stmt:=top 63
noncomputable abbrev z1b:Stmt:=top 64
noncomputable abbrev z13:Stmt:=top 65
noncomputable abbrev z2K:Stmt:=top 69
noncomputable abbrev z7X:Stmt:=top 70
noncomputable abbrev z3C:Stmt:=top 95
noncomputable abbrev z7O:Stmt:=top 96
noncomputable def ze8:mG!:=[("next",mM!),("least",mN!),(iT!,mO!),(fT!,mP!)]
noncomputable def askQ:Ask:=⟨[Y! "is_whole" z6H, Y! "has_size" z5Y, Y! "common_of_two" kJ, Y! "together" z5r, Y! "like_places" z1v, Y! "columns_of" z2h, Y! "without" z8q, Y! "sign_at" z8o, Y! "greatest_and_others" vL, Y! "least_place" z1m, Y! "all_but" z8B, Y! "is_rule" z82, Y! "moved" ze5, Y! "_law_cell_at" z0e, Y! "_law_pot" z76, Y! "_law_take" z4m, Y! "_law_rules" z1R, Y! "_law_step" z3B, Y! "_law_ended" z1O, Y! "_law_plain" z2B, Y! "_law_led" z6k, Y! "_law_dot" z5V, Y! "_law_whole" z2H, Y! "_law_gcd" z5p, Y! "_law_kind_of" z0c, Y! "are_wholes" z1N, Y! "lines_times" z1h, Y! "number_of" z3X, Y! mM! z8g, Y! mN! z5z, Y! mO! zay, Y! mP! z8z, Y! "want_rule" z3R, Y! "_law_lot" z6C, Y! "_law_run" z5J, Y! "_law_product" z0g, Y! "_law_back" z4l, Y! "_law_are_whole" jM, Y! "_law_no_rule" z0N, Y! "_law_is_lot" z1e, Y! "_law_odd" z6q, Y! "_law_same" z3O, Y! "is_lot" zbM, Y! "is_table" z5R, Y! "division" z6u, Y! "come_to" z85, Y! "_law_lines" z1T, Y! "_law_bent" z46, Y! "want_lot" z5t, Y! "want_table" z2m, Y! "common" zas, Y! "has_ended" z3J, Y! "multiplied" z2a, Y! "one_number" z2L, Y! "want_rule_and_lot" uR, Y! "turned_back" z1c, Y! "growing_products" qH, Y! "want_step" z4k, Y! mQ! z1a, Y! "step" zg3, Y! "step_table" z2n, Y! "run" zlh, Y! "tables_of" z3P, Y! "products_of" z1b, Y! "whole_table" z13, Y! "lines_back" z2K, Y! mR! z7X, Y! "_law_told" z3C, Y! "law" z7O], [l! im!,l! "abs",l! iT!,l! fs!,l! gp!,l! ee!,l! gq!,l! "len",l! d0!,l! nq!,l! nr!,l! e1!,l! k0!,l! fU!,l! "sum",l! dd!,l! io!], [(l! "LEAST_SIZE",h! 2),(l! "MOST_SIZE",h! 4)], [Y! "RULES" ze8], [], [l! k1!,l! ns!,l! nt!,l! nu!,l! nv!,l! gR!,l! nw!,l! nx!,l! ny!,l! gS!,l! nz!,l! nA!,l! iU!,l! nB!,l! nC!,l! nD!,l! iV!,l! nE!], [((l! gR!,l! gR!),c!),ii! iU!,ii! nC!,ii! nD!,ii! iV!,ii! nB!,ii! gS!,ii! ns!,ii! nt!,ii! nx!,ii! nu!,ii! nz!,ii! nw!,ii! nE!,ii! nA!,ii! nv!,ii! ny!,id! gR!,id! iU!,id! nC!,id! nD!,id! iV!,id! nB!,((l! gS!,l! gS!),c!),id! ns!,id! nt!,id! nx!,id! nu!,id! nz!,id! nw!,id! nE!,id! nA!,id! nv!,id! ny!,h9! gR!,((l! iU!,l! iU!),c!),h9! nC!,h9! nD!,h9! iV!,h9! nB!,h9! gS!,h9! ns!,h9! nt!,h9! nx!,h9! nu!,h9! nz!,h9! nw!,h9! nE!,h9! nA!,h9! nv!,h9! ny!,h8! gR!,h8! iU!,h8! nC!,h8! nD!,((l! iV!,l! iV!),c!),h8! nB!,h8! gS!,h8! ns!,h8! nt!,h8! nx!,h8! nu!,h8! nz!,h8! nw!,h8! nE!,h8! nA!,h8! nv!,h8! ny!,((l! gR!,l! k1!),c!),((l! gS!,l! k1!),c!),((l! iU!,l! k1!),c!),((l! iV!,l! k1!),c!)]⟩
noncomputable def qv:Program:=W.view pO! [96]
noncomputable def looseQ:al!:=[l! k1!,l! gR!,l! iU!,l! nC!,l! nD!,l! iV!,l! nB!,l! gS!,l! ns!,l! nt!,l! nx!,l! nu!,l! nz!,l! nw!,l! nE!,l! nA!,l! nv!,l! ny!,l! "LEAST_SIZE",l! "MOST_SIZE",l! "is_whole",l! "are_wholes",l! "has_size",l! "is_lot",l! "want_lot",l! "common",l! "common_of_two",l! "has_ended",l! "is_table",l! "want_table",l! "multiplied",l! "one_number",l! "turned_back",l! "together",l! "lines_times",l! "like_places",l! "growing_products",l! "columns_of",l! "number_of",l! "without",l! "sign_at",l! "greatest_and_others",l! "least_place",l! "all_but",l! mM!,l! mN!,l! mO!,l! mP!,l! "RULES",l! "is_rule",l! "want_rule",l! "want_rule_and_lot",l! "want_step",l! "step",l! "step_table",l! "division",l! "moved",l! "run",l! "tables_of",l! "products_of",l! "whole_table",l! mQ!,l! "come_to",l! "lines_back",l! mR!,l! "_law_cell_at",l! "_law_pot",l! "_law_take",l! "_law_lot",l! "_law_rules",l! "_law_step",l! "_law_ended",l! "_law_run",l! "_law_plain",l! "_law_led",l! "_law_product",l! "_law_back",l! "_law_lines",l! "_law_dot",l! "_law_whole",l! "_law_are_whole",l! "_law_gcd",l! "_law_no_rule",l! "_law_is_lot",l! "_law_odd",l! "_law_bent",l! "_law_kind_of",l! "_law_same",l! "_law_told"]
noncomputable def lvQ:dv! W.WData:=[]
noncomputable def xtQ:eH! nF!:=λs=>W.xlAt qv lvQ s&&W.recOk (W.RowW.records (W.OpenRow.toRowW (W.OpenLaw.row PySem.Challenge.rw_drawndown_k21_weights_looked_at_and_told))) s
theorem ztI:∀w:World,W.absHeap (zov rW!) 11 (jO!).life=jO!:=by
 intro w;kernel_rfl
theorem bsz:∀w:World,((jO!).isNs lT!&&(jh!:rJ!).size==0,d1! jO!,(jO!).nsMap lT! "__annotations__")=(c!,11,(a3! 6)):=by
 intro w;kernel_rfl
noncomputable def zid(w v:World)(os:OsState):bh! pN!:=z6M rX! pO! v 11 (a3! 6) 12006 ⟨zov rW!,11,(jO!).life,jh!,pP!,pQ!,os⟩ (W.topStub pO!)
noncomputable def zjS(w:World)(s:W.SharedT):Bool:=W.staticsOk (sC! PySem.Challenge.pw_drawndown_k21_weights_looked_at_and_told.main.body) jO! s.abs.heap&&W.namesBound pO! s.abs.heap&&W.gensDone in!&&W.laidKept jO! s.abs.heap
noncomputable def seenQ(s:Shared):=W.openSeen qv looseQ (sC! PySem.Challenge.pw_drawndown_k21_weights_looked_at_and_told.main.body) xtQ c! s
theorem zu1{α β γ δ:cd!}(x:α×β×γ×δ):(x.1,x.2.1,x.2.2.1,x.2.2.2)=x:=rfl
noncomputable def znv(s:Shared):=((mS! s).1,(mS! s).2.1,(mS! s).2.2.1,(mS! s).2.2.2)
noncomputable def znK:=((py! qv).1,(py! qv).2.1,(py! qv).2.2.1,(py! qv).2.2.2)
theorem ze1(s:Shared):znv s=mS! s:=zu1 _
theorem zei:znK=py! qv:=zu1 _
set_option maxRecDepth 1000000 in
theorem z9T:on! (jw! (zid w (jd! t!) os) (zjS w s,zoZ 46 gT! in!)) (c!,zoE 46 gT!):=by
 intro w os;kernel_rfl
set_option maxRecDepth 1000000 in
theorem z9M:on! (jw! (zid w (jd! t!) os) (znV 46 gT! in!)) (znZ 46 gT! (jd! t!)):=by
 intro w os;kernel_rfl
theorem za3(w:World)(os:OsState):jw! (zid w (jd! t!) os) (zjS w s,obsS gT! in!)=b! (c!,valS gT! (jd! t!)):=zdZ (z9T w os) (z9M w os)
set_option maxRecDepth 1000000 in
theorem za5:on! (jw! (zid w (jd! t!) os) (znv in!)) znK:=by
 intro w os;kernel_rfl
theorem zaR(w:World)(os:OsState):jw! (zid w (jd! t!) os) (mS! in!)=b! (py! qv):=by
 have h:=za5 w os;simp only[ze1,zei]at h;exact h
set_option maxRecDepth 1000000 in
theorem zaS:on! (jw! (zid w (jd! c!) os) (zjS w s,zoZ 46 gT! in!)) (c!,zoE 46 gT!):=by
 intro w os;kernel_rfl
set_option maxRecDepth 1000000 in
theorem zbL:on! (jw! (zid w (jd! c!) os) (znV 46 gT! in!)) (znZ 46 gT! (jd! c!)):=by
 intro w os;kernel_rfl
theorem zcz(w:World)(os:OsState):jw! (zid w (jd! c!) os) (zjS w s,obsS gT! in!)=b! (c!,valS gT! (jd! c!)):=zdZ (zaS w os) (zbL w os)
set_option maxRecDepth 1000000 in
theorem zd0:on! (jw! (zid w (jd! c!) os) (znv in!)) znK:=by
 intro w os;kernel_rfl
theorem zcP(w:World)(os:OsState):jw! (zid w (jd! c!) os) (mS! in!)=b! (py! qv):=by
 have h:=zd0 w os;simp only[ze1,zei]at h;exact h
set_option maxRecDepth 1000000 in
theorem said_:W.OpenLaw.wellSaid PySem.Challenge.rw_drawndown_k21_weights_looked_at_and_told=c!:=by kernel_rfl
end aZ
namespace L2
noncomputable abbrev Key:=Sum Int Str
noncomputable def zcN:Key->eH! dG!
 | .inl k,v=>Value.isInt k v | .inr x,v=>Value.isStrOf x v
noncomputable def zv3(w:World):Key->Int
 | .inl k=>hashInt k | .inr x=>hashStr w x
theorem yU:∀{k:Key}{v:Value},zcN k v=c!->(∃i t,k=oV! i/\v=Value.int i t)\/(∃x t,k=Sum.inr x/\v=Value.str x t)
 | .inl i,v,h=>by
  obtain⟨t,e⟩:=Value.isInt_shape h;exact w! (eS! i t e) | .inr x,v,h=>by
  obtain⟨t,e⟩:=Value.isStrOf_shape h;exact R! (eS! x t e)
theorem z6I(x:Str)(t:Tok):zcN (R! x) (.str x t)=c!:=by simp[zcN,Value.isStrOf]
theorem zqe(a b:Int):bi! ((oV! a:Key)=oV! b)=(a==b):=by
 by_cases e:a=b;·subst e;simp
 ·rw[_aN (λq=>e (Sum.inl.inj q))];exact (beq_eq_false_iff_ne.mpr e).symm
theorem zql(a b:Str):bi! ((Sum.inr a:Key)=Sum.inr b)=ga! a b:=by
 by_cases e:a=b;·simp
 ·rw[_aN (λq=>e (Sum.inr.inj q)),_aN e]
theorem zoF(a:Int)(b:Str):bi! ((oV! a:Key)=Sum.inr b)=t!:=_aN (λq=>nomatch q)
theorem zoM(a:Str)(b:Int):bi! ((Sum.inr a:Key)=oV! b)=t!:=_aN (λq=>nomatch q)
noncomputable def wa(prog:Program)(w:World):PySem.KeyKind mT! w Key where
 is:=zcN;hash:=zv3 w;inj:=λv a b ha hb=>by
  rcases yU ha with⟨i,t,rfl,rfl⟩ | ⟨x,t,rfl,rfl⟩
  ·rcases yU hb with⟨j,u,rfl,e⟩ | ⟨y,u,rfl,e⟩;·injection e with e1 _;rw[e1]
   ·exact nomatch e
  ·rcases yU hb with⟨j,u,rfl,e⟩ | ⟨y,u,rfl,e⟩;·exact nomatch e
   ·injection e with e1 _;rw[e1]
 byValue:=λk v h=>by rcases yU h with⟨i,t,rfl,rfl⟩ | ⟨x,t,rfl,rfl⟩<;>rfl
 pyHash:=λhv h=>by
  rcases yU hv with⟨i,t,rfl,rfl⟩ | ⟨x,t,rfl,rfl⟩;·exact wpAny_pyHash_int h
  ·exact wpAny_pyHash_str h
 eqBool:=λhu hv h=>by
  rcases yU hu with⟨i,t,rfl,rfl⟩ | ⟨x,t,rfl,rfl⟩
  ·rcases yU hv with⟨j,u,rfl,rfl⟩ | ⟨y,u,rfl,rfl⟩;·rw[zqe]at h;exact _b4 h
   ·rw[zoF]at h;exact SeqAt.EqAt.int_str i t y u _ _ _ _ h
  ·rcases yU hv with⟨j,u,rfl,rfl⟩ | ⟨y,u,rfl,rfl⟩;·rw[zoM]at h;exact SeqAt.EqAt.str_int x t j u _ _ _ _ h
   ·rw[zql]at h;exact wpAny_eqBool_str h
 «strs» := λk x t v h=>by
  rcases yU h with⟨i,u,rfl,e⟩ | ⟨y,u,rfl,e⟩;·exact nomatch e
  ·injection e with e1 _;subst e1;cases v<;>rfl
theorem z7M(prog:Program)(w:World)(k:Key)(v:Value):(wa mT! w).is k v=zcN k v:=rfl
theorem zco(prog:Program)(w:World)(x:Str)(t:Tok):(wa mT! w).is (R! x) (.str x t)=c!:=z6I x t
inductive V where | non | bl (b:Bool) | int (i:Int) | str (x:Str) | byt (b:Array UInt8) | flt (b:UInt64) | ref (a:Addr) | ty (n:String) deriving DecidableEq
def wA:V->dG!->j!
 | .non,u=>u=Value.none | .bl b,u=>u=Value.bool b | .int i,u=>∃t,u=Value.int i t | .str x,u=>∃t,u=Value.str x t | .byt b,u=>∃t,u=Value.bytes b t | .flt b,u=>∃t,u=Value.float b t | .ref a,u=>u=k2! a | .ty n,u=>u=Value.type n
abbrev xn:aU!->cR!->j!:=Paired wA
theorem xn.length(r:iN!):v!=mU!:=Paired.length r
theorem xn.get:∀{xs:List V}{us:List Value}{i:Nat}{x:V},iN!->aj! xs x->∃u,aj! us u/\wA x u
 | _,_,_,_,.nil,e=>by cases e | _,_,0,_,.cons r _,e=>by simp at e;subst e;exact aA! _ r | _,_,i+1,x,.cons _ t,e=>by
  obtain⟨u,h1,h2⟩:=xn.get t (by exact e);exact⟨u,by exact h1,h2⟩
theorem xn.set(r:wA x u):∀{xs:List V}{us:List Value}(i:Nat),iN!->xn (ip! i x) (us.set i u)
 | _,_,_,.nil=>cn! | _,_,0,.cons _ t=>ep! r t | _,_,i+1,.cons q t=>ep! q (xn.set r i t)
theorem xn.append:∀{xs ys:List V}{us ws:List Value},iN!->xn ys ws->xn (xs++ys) (us++ws)
 | _,_,_,_,.nil,s=>s | _,_,_,_,.cons r t,s=>ep! r (xn.append t s)
theorem xn.take:∀{xs:List V}{us:List Value}(n:Nat),iN!->xn (mV! n) (us.take n)
 | _,_,0,_=>cn! | _,_,_+1,.nil=>cn! | _,_,n+1,.cons r t=>ep! r (xn.take n t)
theorem xn.drop:∀{xs:List V}{us:List Value}(n:Nat),iN!->xn (k3! n) (us.drop n)
 | _,_,0,r=>r | _,_,_+1,.nil=>cn! | _,_,n+1,.cons _ t=>xn.drop n t
def ztp:bh! V->aN!->j!
 | some v,some u=>wA v u | none,none=>True | _,_=>False
def KV: f3! κ V->f3! κ dG!->j!:=Paired λ(p:κ×V)(q:κ×Value)=>p.1=q.1/\wA p.2 q.2
noncomputable def kV:Key->V
 | .inl i=>ac! | .inr x=>bQ!
inductive HO where | lst (xs:aU!) | tup (xs:aU!) | dK (ah:f3! Key V) | dT (ah:f3! (dZ! Key) V) | set (S:eH! Int)(n:Nat) | ins (C dx:Addr)(fs:dv! V) | own (x:Addr) | xd (fs:dv! V) | met (f x:Addr) | rng (lo hi:Int) | frz (o:Obj)(u:HO) | tbl (ps:cq!) | ext (φ:Heap->j!)
abbrev Hp:=lU!->bh! HO
noncomputable def upd(H:Hp)(a:Addr)(o:HO):Hp:=λb=>af! b a (b! o) (H b)
theorem yw: upd H a o a=b! o:=by unfold upd;rw[gC!]
theorem zJ(h:b≠a):upd H a o b=H b:=by unfold upd;rw[_q h]
theorem zm8: upd (gP! o) a u=gP! u:=by funext b;unfold upd;split<;>rfl
theorem xp{H:Hp} (h:cb! o)(h':eN!):a≠b:=by intro e;subst e;rw[h]at h';cases h'
def zfp(h:Heap)(a:Addr)(items:cq!):j!:=∃o,cx! a/\fV!=du!/\o.dict=a!/\∃n,hU!=.seq gU! n
theorem zfp.tup{h:Heap}{a:Addr}{items:cq!}(x:zfp h a gU!):IsTup h a gU!:=let ⟨o,e,c,_,r⟩:=x;⟨o,e,c,r⟩
theorem zfp.new(h:Heap)(items:cq!):zfp (h.push {cls:=du!,data:=.seq gU!}) iW! gU!:=⟨_,gN!,rfl,rfl,_,rfl⟩
theorem zfp.lt(x:zfp h a gU!):a<iW!:=x.tup.lt
section
variable (P:Program)(w:World)
def jG(H:Hp)(h:Heap)(a:Addr):HO->j!
 | .lst xs=>v!<=aW!/\∃(af:List Value)(n:Nat),hr! xs/\ex! a ({cls:=c1!,data:=ot! n}) | .tup xs=>v!<=aW!/\∃af:List Value,hr! xs/\zfp h a e2! | .dK ah=>ah.length<=aW!/\(a==sysModules)=t!/\∃vs,KV ah vs/\h.DictOf (wa P w) a vs | .dT ah=>ah.length<=aW!/\(a==sysModules)=t!/\∃xs:List (List Key×Addr×Value), pR! (λ(p:List Key×V)(q:List Key×Addr×Value)=>p.1=q.1/\H q.2.1=b! (p! (p.1.map kV))/\wA p.2 q.2.2) ah xs/\ ∃o es ep,cx! a/\o.ExactDict/\hU!=.dict es ep/\es.toList=nG! (entryOfKey (tupleKind (wa P w)))/\(nG! (·.1)).Nodup | .set S n=>h.SetOf (intKind P w) a S n | .ins C dx fs=>H dx=b! (.own a)/\dm! fs.length/\dx≠a/\ex! a (W.instObj C dx)/\ ∃mA,h.Ns1 dx mA/\(∀f,ztp (fs.lookup f) (mA f))/\PySem.Within mA (fs.map (·.1)) | .own _=>∃o,cx! a | .xd fs=>∃mA,h.Ns1 a mA/\∀f,ztp (fs.lookup f) (mA f) | .rng lo hi=>∃t u v,ex! a ({cls:=lA!,data:=eq! #[bJ! lo,bs! hi u,bs! 1 v]}) | .frz o u=>cx! a/\jG H h a u | .tbl ps=>ex! a ({cls:=X!,data:=eq! ps}) | .met f x=>ex! a (W.methodObj (q! f) (q! x)) | .ext φ=>φ h/\(∃o,cx! a)/\∀h1 h2:Heap,φ h1->(∀o,h1.get? a=b! o->h2.get? a=b! o)->φ h2
def HOk(H:Hp)(h:Heap):j!:=∀a o,cb! o->jG P w H h a o
end
section
variable {P:Program}{w:World}{H H':Hp}{h h':Heap}{a:Addr}{o:HO}
theorem jG.lt(x:jG P w H h a o):a<iW!:=by cases o with
 | lst xs=>obtain⟨_,_,_,_,e⟩:=x;exact cX! | tup xs=>obtain⟨_,_,_,p⟩:=x;exact p.lt | dK ah=>obtain⟨_,_,_,_,o,_,_,e,_⟩:=x;exact cX! | dT ah=>obtain⟨_,_,_,_,o,_,_,e,_⟩:=x;exact cX! | set S n=>obtain⟨o,_,_,_,e,_⟩:=x;exact cX! | ins C dx fs=>obtain⟨_,_,_,e,_⟩:=x;exact cX! | own y=>obtain⟨_,e⟩:=x;exact cX! | xd fs=>obtain⟨_,⟨_,_,_,e,_⟩,_⟩:=x;exact cX! | rng lo hi=>obtain⟨_,_,_,e⟩:=x;exact cX! | frz ob u=>obtain⟨e,_⟩:=x;exact cX! | tbl ps=>exact _r (x) | met f y=>exact _r (x) | ext φ=>obtain⟨_,⟨_,e⟩,_⟩:=x;exact cX!
theorem Paired.mapP: ∀{l₁:List α}{l₂:List β},pR! F l₁ l₂->(∀a b,F a b->G a b)->pR! G l₁ l₂
 | _,_,.nil,_=>cn! | _,_,.cons r t,f=>ep! (f _ _ r) (Paired.mapP t f)
theorem jG.stay(x:jG P w H h a o)(k:∀b u,(b=a\/cI! (.own a))->ex! b u->f0! b u) (ho:∀b,cI! (.own a)->H' b=b! (.own a))(ht:∀b xs,cI! aD!->H' b=b! aD!):jG P w H' h' a o:=by induction o with
 | lst xs=>obtain⟨z,af,n,r,e⟩:=x;exact⟨z,af,n,r,k _ _ cT! e⟩ | tup xs=>obtain⟨z,af,r,ob,e,c⟩:=x;exact⟨z,af,r,ob,k _ _ cT! e,c⟩ | dK ah=>obtain⟨z,y,vs,r,ob,es,ep,e,c⟩:=x;exact⟨z,y,vs,r,ob,es,ep,k _ _ cT! e,c⟩ | dT ah=>
  obtain⟨z,y,xs,r,ob,es,ep,e,c⟩:=x;exact⟨z,y,xs,Paired.mapP r λp q z=>⟨z.1,ht _ _ z.2.1,z.2.2⟩,ob,es,ep,k _ _ cT! e,c⟩ | set S n=>obtain⟨ob,es,ep,t,e,c⟩:=x;exact⟨ob,es,ep,t,k _ _ cT! e,c⟩ | ins C dx fs=>
  obtain⟨d,z,ne,e,mA,⟨od,es,ep,e2,c⟩,r⟩:=x;exact⟨ho _ d,z,ne,k _ _ cT! e,mA,⟨od,es,ep,k _ _ (R! d) e2,c⟩,r⟩ | own y=>obtain⟨ob,e⟩:=x;exact⟨ob,k _ _ cT! e⟩ | xd fs=>obtain⟨mA,⟨od,es,ep,e,c⟩,r⟩:=x;exact aQ! mA ⟨od,es,ep,k _ _ cT! e,c⟩ r | rng lo hi=>obtain⟨t,u,v,e⟩:=x;exact⟨t,u,v,k _ _ cT! e⟩ | frz ob u ih=>obtain⟨e,q⟩:=x;exact⟨k _ _ cT! e,ih q⟩ | tbl ps=> exact k a _ cT! x | met f y=> exact k a _ cT! x | ext φ=>obtain⟨p,⟨o,e⟩,st⟩:=x;exact⟨st _ _ p λo q=>k _ _ cT! q,⟨o,k _ _ cT! e⟩,st⟩
theorem HOk.lt(x:HOk P w H h)(e:cb! o):a<iW!:=(x a o e).lt
theorem HOk.fresh(x:HOk P w H h)(e:iW!<=a):H a=a!:=by cases q:H a with
 | none=>rfl | some u=>exact kD! (_i (x.lt q) e) _
theorem HOk.kept(x:HOk P w H h)(k:∀b u,ex! b u->f0! b u):HOk P w H h':=λa o e=> (x a o e).stay (λb u _ q=>k b u q) (λ_ q=>q) λ_ _ q=>q
theorem HOk.laid(x:HOk P w H h)(k:∀b u,ex! b u->f0! b u)(hp:iW!<=a)(new:jG P w (gP! o) h' a o):HOk P w (gP! o) h':=λb u e=>by
 have hn:=x.fresh hp;by_cases hb:b=a;·subst hb;rw[yw]at e;cases e;exact new
 ·rw[zJ hb]at e;exact (x b u e).stay (λc v _ q=>k c v q) (λc q=>by rw[zJ (xp q hn)];exact q) λc xs q=>by rw[zJ (xp q hn)];exact q
end
def Rd(H:Hp)(a:Addr)(u:HO):j!:=cb! u\/∃o,cb! (dS! u)
theorem Rd.ok(r:Rd H a u)(x:HOk P w H h):jG P w H h a u:=by
 rcases r with r | ⟨o,r⟩;·exact x a u r
 ·obtain⟨_,q⟩:=x a _ r;exact q
def Mut:bh! HO->j!
 | some (.lst _)=>True | some (.dK _)=>True | some (.dT _)=>True | some (.set _ _)=>True | some (.ins _ _ _)=>True | some (.ext _)=>True | _=>False
section
variable {P:Program}{w:World}{H:Hp}{h h':Heap}{x e:Addr}{o':HO}
theorem HOk.write(ok:HOk P w H h)(mu:Mut (H x))(he:e=x\/H e=b! (.own x))(k:∀b u,b≠e->ex! b u->f0! b u)(dX:∃u,f0! e u) (new:jG P w (hE! x o') h' x o'):HOk P w (hE! x o') h':=λb u q=>by
 have eI:∀c y,H c=b! (.own y)->c≠x:=λc y r z=>by subst z;rw[r]at mu;exact mu
 by_cases hb:b=x;·subst hb;rw[yw]at q;cases q;exact new
 ·rw[zJ hb]at q;by_cases dG:b=e
  ·have q':cI! (.own x):=by
    rcases he with z | z;·exact cN! (dG.trans z) hb
    ·rw[dG];exact z
   rw[q]at q';cases q';obtain⟨v,hv⟩:=dX;exact⟨v,by rw[dG];exact hv⟩
  ·refine (ok b u q).stay (λc v hc r=>k c v ?_ r) (λc r=>by rw[zJ (eI c b r)];exact r) λc xs r=>by rw[zJ ((λc xs r z=>by subst z;rw[r]at mu;exact mu) c xs r)];exact r
   rcases hc with rfl | hc;·exact dG
   ·rintro rfl;rcases he with z | z;·exact eI c b hc z
    ·rw[hc]at z;cases z;exact hb rfl
end
structure Un(fs ex:bk!)(H H':Hp)(h h':Heap):j! where
 keep:bz! (cx! b->eN!->b∉fs->b∉ex->dn! b)
 slot:bz! (cx! b->eN!->b∈fs->b∉ex->∃sl,f0! b ({o with slots:=sl}))
 free:bz! (cx! b->eN!->b∉ex->fJ! b)
 there:bz! (cx! b->b∉ex->∃o',f0! b o')
 tups:∀b xs,cI! aD!->H' b=b! aD!
 frzs:∀b o u,cI! (dS! u)->H' b=b! (dS! u)
 tbls:∀b ps,cI! (.tbl ps)->∃more,H' b=b! (.tbl (ps++more))
section
variable {fs dY ex pL:bk!}{H H1 H2:Hp}{h h1 h2 h':Heap}{a x e:Addr}{o:HO}
theorem Un.any(u:Un fs ex H H1 h h1) (q:ex! b ob)(n:eN!)(hx:b∉ex):∃sl,h1.get? b=b! ({ob with slots:=sl}):=by
 by_cases hb:b∈fs;·exact u.slot b ob q n hb hx
 ·exact⟨ob.slots,u.keep b ob q n hb hx⟩
theorem Un.kept(k:∀b u,ex! b u->f0! b u):Un fs ex H H h h':= ⟨λb ob q _ _ _=>k b ob q,λb ob q _ _ _=>⟨ob.slots,k b ob q⟩,λ_ _ _ n _=>n,λb ob q _=>⟨ob,k b ob q⟩,λ_ _ q=>q,λ_ _ _ q=>q,λ_ ps q=>⟨#[],by rw[q];rfl⟩⟩
theorem Un.refl:Un fs ex H H h h:=Un.kept λ_ _ q=>q
theorem Un.laid(k:∀b u,ex! b u->f0! b u)(hp:iW!<=a)(hn:H a=a!):Un fs ex H (gP! o) h h' where
 keep:=λb u q _ _ _=>k b u q;slot:=λb u q _ _ _=>⟨u.slots,k b u q⟩;free:=λb u q n _=>by rw[zJ (_D (_i (_r q) hp))];exact n
 there:=λb u q _=>⟨u,k b u q⟩;tups:=λb xs q=>by rw[zJ (xp q hn)];exact q
 frzs:=λb u xs q=>by rw[zJ (xp q hn)];exact q
 tbls:=λb ps q=>⟨#[],by rw[zJ (xp q hn),q];rfl⟩
theorem Un.write(mu:Mut (H x))(he:e=x\/H e=b! (.own x))(k:∀b u,b≠e->ex! b u->f0! b u)(dX:∃u,f0! e u):Un fs ex H (hE! x o) h h':=by
 have hx:∀b,eN!->b≠x:=λb n z=>by subst z;rw[n]at mu;exact mu
 have hb:∀b,eN!->b≠e:=λb n z=>by
  subst z;rcases he with r | r;·exact hx b n r
  ·rw[n]at r;cases r
 have hm:∀b u,cI! u->¬ Mut (b! u)->b≠x:=λb u q nm z=>by subst z;rw[q]at mu;exact nm mu
 refine⟨λb u q n _ _=>k b u (hb b n) q,λb u q n _ _=>⟨u.slots,k b u (hb b n) q⟩,λb u q n _=>by rw[zJ (hx b n)];exact n,λb u q _=>?_, λb xs q=>by rw[zJ (hm b _ q λz=>z)];exact q,λb u xs q=>by rw[zJ (hm b _ q λz=>z)];exact q,λb ps q=>⟨#[],by rw[zJ (hm b _ q λz=>z),q];rfl⟩⟩;by_cases dG:b=e;·subst dG;exact dX
 ·exact⟨u,k b u dG q⟩
end
noncomputable def trk(h:Heap)(H:Hp):bk!:=fW! (iX! iW!) (λa=>iq! (H a))
noncomputable def znY(h:Heap)(H:Hp):Heap:=W.hideAll h (trk h H)
theorem zfy(h:Heap)(H:Hp):d1! (znY h H)=iW!:=W.hideAll_size _ _
theorem zjl(e:cx! b)(n:eN!):eK! (znY h H) b o:= W.hideAll_get _ e λhm=>by
  have q := (_bo.mp hm).2;rw[n]at q;cases q
theorem znR(e:eK! (znY h H) b o):cx! b/\eN!:=by
 have e' := W.of_hideAll (trk h H) e;refine as! e' ?_;cases q:H b with
 | none=>rfl | some x=>
  have z:(znY h H).get? b=a!:=W.hideAll_none (trk h H) (_bo.mpr ⟨_aJ.mpr (_r e'),by simp[q]⟩);rw[z]at e;cases e
noncomputable def znh(g h:Heap)(L:Addr):c4!:=rG! iW! (λa=>ai! (a=L\/h7! (g.get? a)) a! ((pM! a).map λo=>(a,o)))
noncomputable def jI(g h:Heap)(L d:Addr):c4!:=fW! (znh g h L) (λp=>cr! p.1 d)
structure Mod(K:W.Frag)(mg:Str->aN!)(base:Heap):j! where
 kin:K.In P!
 glob:sb! mg
 blt:∃mb,base.Ns builtinsNs mb/\∀x:Str,lB! x->mb x=k4! x
 nolimit:base.NoLimit
structure Cx where
 prog:Program
 w:World
 K:W.Frag
 mg:Str->aN!
 base:Heap
 A:Around
 N:al!
 s₀:Shared
 H₀:Hp
 env:Env
 outer:mu!
 stack:mu!
 ex:bk!
 fn:eH! Str
 calm:Bool
 pn:c4!
 xe:bP!
noncomputable def frs(l:mu!):bk!:=l.filterMap (·.frame)
noncomputable abbrev Cx.fs(X:Cx):bk!:=frs kh!
def Vis(sc:Scope)(x:Str):j!:=op!=b! oW!\/op!=dk!\/op!=b! bK!
def Loc(sc:Scope)(x:Str):j!:=op!=b! oW!\/op!=dk!
def zux(env:Env)(h:Heap)(m:Str->aN!)(x:Str)(u:Value):j!:= (sx! x=b! oW!/\m x=b! u)\/((sx! x=dk!\/sx! x=b! bK!)/\∃c,env.cells.lookup x=b! c/\h.IsCell c (b! u))
structure Cx.Ok(X:Cx):j! where
 mod:Mod X.K e4! eP!
 kind:X.env.scope.kind=rV!
 glob:X.env.globals=lT!
 blt:X.env.builtins=builtinsNs
 above:X.s₀.heap.objs.size<=jy!
 inj:∀x y c,gy! x c->gy! y c->x=y
 has:∀x,(X.env.kindOf x=dk!\/X.env.kindOf x=b! bK!)->∃c,gy! x c
 cab:∀x c,g8! x->gy! x c->X.s₀.heap.objs.size<=c
 hd:bY!->X.A.handled=a!
 frames:X.A.frames=b! lV!
 stk:lV!=kh!\/(lV!=aX!::kh!/\X.env.frame=b! jy!)
 exf:∀b∈X.ex,iC! b/\∀x c,gy! x c->c≠b
 bs:bz! (rK!=b! o->rz!=b! o/\X.H₀ b=a!)
 bsz:X.base.objs.size<=X.s₀.heap.objs.size
 noex:bz! (rK!=b! o->b∉k5!)
 exfs:∀b∈X.ex,b∉iY!
 funs:X.s₀.heap.FunFrames eP! kh!
 frf:∀b∈X.fs,X.H₀ b=a!
structure Inv(X:Cx)(ae:c4!)(O:l8! V)(H:Hp)(s:Shared):j! where
 ok:X.Ok
 os:s.os=X.s₀.os
 bare:rp! s.gens
 base:Un iY! k5! X.H₀ H X.s₀.heap G!
 loc:∃m,s.heap.Ns jy! m/\∀(i:Nat)(x:Str)(v:V),gd! x->aj! O bx!->sk! x->∃u,wA v u/\zux aX! G! m x u
 cell:∀x c,gy! x c->∃v,s.heap.IsCell c v
 free:H jy!=a!
 freeC:∀x c,gy! x c->H c=a!
 pin:∀p∈ir!++ae,fx! p.1 p.2/\H p.1=a!/\iC! p.1/\p.1∉iY!/\∀v,p.2.data≠.cell v
 hok:HOk aR! X.w H G!
 len:O.length=X.N.length
section
variable {X:Cx}{ae:c4!}{O:l8! V}{H H':Hp}{s:Shared}{h':Heap}
theorem Cx.Ok.nofr(ok:X.Ok) (e:rK!=b! o):b∉iY!:=λhb=>by
 have:=(ok.funs.mem hb).1;rw[e]at this;cases this
theorem Inv.bs(I:K!):bz! (rK!=b! o->da! b/\eN!):=gr! ⟨pS! b o (I.ok.bs b o e).1 (I.ok.bs b o e).2 (I.ok.nofr e) (I.ok.noex b o e),rm! o (I.ok.bs b o e).1 (I.ok.bs b o e).2 (I.ok.noex b o e)⟩
theorem Inv.bk(I:K!):bz! (rK!=b! o->da! b):=gr! (I.bs b o e).1
theorem Inv.mod(I:K!):Mod X.K e4! eP!:=I.ok.mod
theorem Inv.kIn(I:K!):X.K.In G!:=I.ok.mod.kin.keeps I.bk
theorem Inv.fr(I:K!):∃m,Fr eP! jy! G! m:= let ⟨m,hn,_⟩:=I.loc;⟨m,hn,I.bk,_Y I.ok.bsz nH!⟩
theorem Inv.lt(I:K!):jy!<am!:=let ⟨_,hn,_⟩:=I.loc;hn.lt
theorem Inv.sz(I:K!):X.s₀.heap.objs.size<=am!:=_Y nH! (_bz I.lt)
theorem Inv.nofs(I:K!){a:Addr}(h:am!<=a):a∉iY!:=λhb=>by
 obtain⟨_,o,ho,_⟩:=I.ok.funs.mem hb;exact kD! (_i (_r ho) (_Y I.sz h)) _
theorem Inv.cne(I:K!):∀x c,gy! x c->iC! c:=λx c e z=>by
 obtain⟨v,o,ho,hd⟩:=nn! x e;obtain⟨m,⟨o',es,ep,cb,gJ,_⟩,_⟩:=I.loc;rw[z,cb]at ho;cases ho;rw[gJ]at hd;cases hd
theorem Inv.funs(I:K!):s.heap.FunFrames eP! kh!:=(show ∀(l:List Env),(∀b∈frs l,b∈iY!)->X.s₀.heap.FunFrames eP! l->s.heap.FunFrames eP! l from by
  intro l;induction l with
  | nil=>intro _ _;trivial | cons env r ih=>
   intro hs hl;obtain⟨hk,⟨L,o,hf,hn,ho,hd⟩,hr⟩:=hl;have hL := hs L (by unfold frs;rw[_bE,hf];exact _ak);obtain⟨sl,e⟩:=pT! L o ho (I.ok.frf L hL) hL (λz=>I.ok.exfs L z hL);exact⟨hk,⟨L,_,hf,hn,e,hd⟩,ih (ce! (hs b (by unfold frs;rw[_bE,hf];exact _H _ hb))) hr⟩) kh! (λ_ hb=>hb) I.ok.funs
theorem Inv.stack(I:K!):s.heap.FunFrames eP! lV!:=by
 rcases I.ok.stk with e | ⟨e,hf⟩;·rw[e];exact I.funs
 ·rw[e];obtain⟨m,hn,_⟩:=I.loc;exact .cons (by rw[I.ok.kind];decide) hf hn (Heap.get?_none_of_le (_Y I.ok.bsz nH!)) I.funs
theorem Inv.stkSub(I:K!):∀b∈sw!,b∈jy!::iY!:=ce! (by
 rcases I.ok.stk with e | ⟨e,hf⟩;·rw[e]at hb;exact _H _ hb
 ·rw[e]at hb;unfold frs at hb;rw[_bE,hf]at hb;exact hb)
theorem Inv.stkFree(I:K!):∀b∈sw!,eN!:=ce! (by
 rcases d2! (I.stkSub b hb) with e | hb;·rw[e];exact I.free
 ·obtain⟨_,o,ho,_⟩:=I.ok.funs.mem hb;exact rm! o ho (I.ok.frf b hb) (λz=>I.ok.exfs b z hb))
theorem Inv.step{g':rJ!}{t':Nat}{d':Drawn}{ch:bk!}(I:K!) (cR:∀b∈ch,(b∈k5!\/X.s₀.heap.objs.size<=b)/\iC! b/\(∀x c,gy! x c->c≠b)/\∀p∈ir!++ae,p.1≠b) (keep:bz! (iC! b->b∉iY!->b∉ch->da! b->eN!->dn! b)) (slot:bz! (iC! b->b∈iY!->b∉ch->da! b->eN!->∃sl,f0! b ({o with slots:=sl})))(free:bz! (b∉ch->da! b->eN!->fJ! b)) (there:bz! (b∉ch->da! b->∃o',f0! b o')) (tups:∀b xs,cI! aD!->H' b=b! aD!)(frzs:∀b o u,cI! (dS! u)->H' b=b! (dS! u))(tbls:∀b ps,cI! (.tbl ps)->∃more,H' b=b! (.tbl (ps++more))) (ns:∀m,s.heap.Ns jy! m->h'.Ns jy! m)(hok:HOk aR! X.w H' h')(hg:rp! g'): cB! H' ({s with heap:=h',gens:=g',drawn:=d',toks:=t'}):=by
 have dZ:bz! (rz!=b! o->iC! b):=gr! (_D (_i cX! nH!));have fZ:bz! (rz!=b! o->b∉k5!->b∉ch):=λb o e hx hb=>by
  rcases (cR b hb).1 with z | z;·exact hx z
  ·exact kD! (_i cX! z) _
 have dh:∀x c,gy! x c->∀v,s.heap.IsCell c v->h'.IsCell c v:=λx c e v ⟨o,ho,hd⟩=>by
  have eJ := λz=>(cR c z).2.2.1 x c e rfl;by_cases hc:c∈iY!
  ·obtain⟨sl,q⟩:=slot c o (I.cne x c e) hc eJ ho (I.freeC x c e);exact bG! q hd
  ·exact cj! (keep c o (I.cne x c e) hc eJ ho (I.freeC x c e)) hd
 refine⟨mW!,jz!,hg,⟨pU! (keep b o (dZ b o e) hb (fZ b o e hx) (pS! b o e n hb hx) (rm! o e n hx)),pU! ?_,λb o e n hx=>?_,λb o e hx=>?_,λb xs e=>tups b xs (I.base.tups b xs e),λb o xs e=>frzs b o xs (I.base.frzs b o xs e),λb ps e=>?_⟩,?_,λx c e=>?_,?_,λx c e=>?_,bo! ?_,hok,k6!⟩
 ·obtain⟨sl,e1⟩:=pT! b o e n hb hx;obtain⟨i7,e2⟩:=slot b _ (dZ b o e) hb (fZ b o e hx) e1 (rm! o e n hx);exact as! i7 e2
 ·obtain⟨o',e1⟩:=ox! o e hx;exact free b o' (fZ b o e hx) e1 (rm! o e n hx)
 ·obtain⟨o',e1⟩:=ox! o e hx;exact there b o' (fZ b o e hx) e1
 ·obtain⟨m1,e1⟩:=I.base.tbls b ps e;obtain⟨m2,e2⟩:=tbls b _ e1;exact⟨m1++m2,by rw[e2,Array.append_assoc]⟩
 ·obtain⟨m,hn,hl⟩:=I.loc;refine⟨m,ns m hn,λi x v e1 e2 e3=>?_⟩;obtain⟨u,r,l⟩:=hl i x v e1 e2 e3;refine aQ! u r ?_;rcases l with l | ⟨k,c,e,z⟩;·exact w! l
  ·exact R! ⟨k,c,e,dh x c e _ z⟩
 ·obtain⟨v,z⟩:=nn! x e;exact⟨v,dh x c e v z⟩
 ·obtain⟨m,⟨o,_,_,ho,_⟩,_⟩:=I.loc;exact free _ o (λz=>(cR _ z).2.1 rfl) ho is!
 ·obtain⟨v,o,ho,hd⟩:=nn! x e;exact free c o (λz=>(cR c z).2.2.1 x c e rfl) ho (I.freeC x c e)
 ·obtain⟨e,n,ne,nf,d⟩:=kP! hp;have eJ := λz=>(cR p.1 z).2.2.2 p hp rfl;exact⟨keep p.1 p.2 ne nf eJ e n,free p.1 p.2 eJ e n,ne,nf,d⟩
theorem Inv.un(I:K!)(u:Un iY! [] H H' G! h')(hok:HOk aR! X.w H' h'):cB! H' ({s with heap:=h',toks:=t'}):=by
 obtain⟨m,⟨o,es,ep,ho,r⟩,_⟩:=id lW!;obtain⟨sl,hL⟩:=u.any ho is! (by simp);exact I.step (ch:=[]) (λ_ z=>nomatch z) (λb o _ hb _ e n=>u.keep b o e n hb (by simp)) (λb o _ hb _ e n=>u.slot b o e n hb (by simp)) (λb o _ e n=>u.free b o e n (by simp)) (λb o _ e=>u.there b o e (by simp)) u.tups u.frzs u.tbls (λm' hm=>by
  obtain⟨o',gK,gL,cb,r'⟩:=hm;rw[ho]at cb;cases cb;exact⟨_,gK,gL,hL,r'⟩) hok I.bare
theorem Inv.call(I:K!)(u:Un sw! ch H H' G! h')(hok:HOk aR! X.w H' h')(hg:rp! g') (cR:∀b∈ch,(b∈k5!\/X.s₀.heap.objs.size<=b)/\iC! b/\(∀x c,gy! x c->c≠b)/\∀p∈ir!++ae,p.1≠b): cB! H' ({s with heap:=h',gens:=g',drawn:=d',toks:=t'}):=by
 obtain⟨m,⟨o,es,ep,ho,r⟩,_⟩:=id lW!;obtain⟨sl,hL⟩:=u.any ho is! λz=>(cR _ z).2.1 rfl;exact I.step cR (λb o hL hb hc e n=>u.keep b o e n (λz=>(d2! (I.stkSub b z)).elim hL hb) hc) (λb o _ _ hc e n=>u.any e n hc) (λb o hc e n=>u.free b o e n hc) (λb o hc e=>u.there b o e hc) u.tups u.frzs u.tbls (λm' hm=>by
  obtain⟨o',gK,gL,cb,r'⟩:=hm;rw[ho]at cb;cases cb;exact⟨_,gK,gL,hL,r'⟩) hok hg
theorem Inv.turned(I:K!)(k:bz! (b≠it->da! b->dn! b))(hn:H it=a!)(hL:iC! it) (h1:it∈k5!\/X.s₀.heap.objs.size<=it)(h2:∀x c,gy! x c->c≠it)(h3:∀p∈ir!++ae,p.1≠it):lt! ({s with heap:=h',toks:=t'}):=by
 have eK:∀b u,cI! u->b≠it:=λb u e z=>by rw[z,hn]at e;cases e
 refine I.step (ch:=[it]) (ce! ?_) (λb o _ _ hc e _=>k b o (λz=>hc (by simp[z])) e) (λb o _ _ hc e _=>⟨o.slots,k b o (λz=>hc (by simp[z])) e⟩) (λ_ _ _ _ n=>n) (λb o hc e=>⟨o,k b o (λz=>hc (by simp[z])) e⟩) (λ_ _ e=>e) (λ_ _ _ e=>e) (λb ps e=>⟨#[],by rw[e];rfl⟩) (λm hm=>?_) (λb u e=>?_) I.bare
 ·have e:b=it:=by simpa using hb
  subst e;exact⟨h1,hL,h2,h3⟩
 ·obtain⟨o,es,ep,ho,r⟩:=hm;exact⟨o,es,ep,k _ o (_bM hL) ho,r⟩
 ·refine (nI! b u e).stay (λc v hc q=>k c v ?_ q) (λ_ q=>q) λ_ _ q=>q;rcases hc with z | z;·rw[z];exact eK b u e
  ·exact eK c _ z
theorem Inv.tok(I:K!)(t:Nat):lt! ({s with toks:=t}):=I.un Un.refl er!
theorem Inv.kept(I:K!)(k:∀b u,fx! b u->f0! b u):lt! ({s with heap:=h',toks:=t'}):=I.un (Un.kept k) (I.hok.kept k)
theorem Inv.laid{a:Addr} (I:K!) (k:∀b u,fx! b u->f0! b u) (hp:am!<=a) (new:jG aR! X.w (gP! o) h' a o): cB! (gP! o) ({s with heap:=h',toks:=t'}):=I.un (Un.laid k hp (rY! hp)) (I.hok.laid k hp new)
theorem Inv.write(I:K!) (mu:Mut (H x)) (he:e=x\/H e=b! (.own x)) (k:∀b u,b≠e->fx! b u->f0! b u) (dX:∃u,f0! e u) (new:jG aR! X.w (hE! x o) h' x o):cB! (hE! x o) ({s with heap:=h',toks:=t'}):=I.un (Un.write mu he k dX) (I.hok.write mu he k dX new)
theorem Inv.weak(I:K!)(hl:O'.length=O.length)(w:∀(i:Nat) v,aj! O' bx!->aj! O bx!):ky! O' H s:= ⟨mW!,jz!,iZ!,nJ!,let ⟨m,hn,eM⟩:=I.loc;⟨m,hn,λi x v e1 e2 e3=>eM i x v e1 (w i v e2) e3⟩,nK!,is!,k7!,I.pin,er!,hl.trans k6!⟩
theorem Inv.pins_of(I:K!)(h:∀p∈pins',fx! p.1 p.2/\H p.1=a!/\iC! p.1/\p.1∉iY!/\∀v,p.2.data≠.cell v):Inv X pins' O H s:= ⟨mW!,jz!,iZ!,nJ!,lW!,nK!,is!,k7!,bo! (mx! hp (λz=>kP! (_a9 _ z)) (h p)),er!,k6!⟩
theorem zdn{N:al!}(hN:N.Nodup){i j:Nat} (a:aj! N x)(b:E! N j x):i=j:=by
 obtain⟨h1,e1⟩:=nL! a;obtain⟨h2,e2⟩:=nL! b;exact (_aY hN).mp (e1.trans e2.symm)
theorem z6N(I:K!)(hN:X.N.Nodup)(hi:gd! x)(hx:h0! x)(r:wA v u) (h:∀s',ky! (lK! i) H s'->(∃a,Heap.SameBut a G! gs!/\(a=jy!\/gy! x a))->Q () s')(hf:h2! (g8! x\/fB! x)):fk! M A (storeName aX! x u) Q E:=by
 obtain⟨m,hn,hl⟩:=id lW!;have i8:i<O.length:=by rw[I.len];exact cE! hi
 have cne:=I.cne;have bT:∀{a:Addr}{h':Heap},(∃o,da! a/\H a=a!)->Heap.SameBut a G! h'->HOk aR! X.w H h':=λ{a h'} ha hs b ob e=>by
  obtain⟨_,_,di⟩:=ha;refine (nI! b ob e).stay (λc w' hc q=>bL! (hs.2 c ?_) q) (λ_ q=>q) λ_ _ q=>q;rintro rfl;rcases hc with rfl | hc;·rw[di]at e;cases e
  ·rw[di]at hc;cases hc
 rcases hx with hk | hk
 ·refine wpAny_storeName_local hk hn (λh' mM hs=>?_) (by rw[I.ok.kind];rfl);obtain⟨oL,_,_,mO,_⟩:=id hn;refine h _ ⟨mW!,jz!,iZ!,⟨pU! ?_,pU! ?_,I.base.free,λb o e hx=>?_,I.base.tups,I.base.frzs,I.base.tbls⟩,bG! mM (λj y v' e1 e2 e3=>?_),λy c e=>?_,is!,k7!,bo! ?_,bT ⟨oL,mO,is!⟩ hs,by simpa using I.len⟩ (bG! hs cT!);·exact bL! (hs.2 b (_D (_i cX! nH!))) (pS! b o e n hb hx)
  ·obtain⟨sl,e1⟩:=pT! b o e n hb hx;exact⟨sl,bL! (hs.2 b (_D (_i cX! nH!))) e1⟩
  ·obtain⟨o',e1⟩:=ox! o e hx;exact⟨o',bL! (hs.2 b (_D (_i cX! nH!))) e1⟩
  ·by_cases hj:j=i
   ·subst hj;rw[hi]at e1;cases e1;rw[_ag i8]at e2;cases e2;exact⟨u,r,w! ⟨hk,by simp⟩⟩
   ·rw[_ab (_bM hj)]at e2;obtain⟨u',r',q⟩:=hl j y v' e1 e2 e3;refine aQ! u' r' ?_;rcases q with⟨k,e⟩ | ⟨k,c,e,z⟩
    ·refine w! ⟨k,?_⟩;have:y≠x:=λe=>hj (zdn hN e1 (e ▸ hi));simp[this,e]
    ·exact R! ⟨k,c,e,z.sameBut hs (cne y c e)⟩
  ·obtain⟨w',z⟩:=nn! y e;exact⟨w',z.sameBut hs (cne y c e)⟩
  ·obtain⟨e,n,ne,nf,d⟩:=kP! hp;exact⟨bL! (hs.2 p.1 ne) e,n,ne,nf,d⟩
 ·have gM:g8! x:=by
   rcases hf with z | z;·exact z
   ·rw[z]at hk;cases hk
  obtain⟨c,hc⟩:=I.ok.has x (w! hk);obtain⟨w',z⟩:=nn! x hc;refine wpAny_storeName_cell pV! hk hc z (λh' cC hs=>?_);obtain⟨oc,j3,gN⟩:=id z;refine h {s with heap:=h'} ⟨mW!,jz!,iZ!,⟨pU! (bL! (hs.2 b (_D (_i cX! (I.ok.cab x c gM hc)))) (pS! b o e n hb hx)),pU! ?_,I.base.free,λb o e hx=>?_,I.base.tups,I.base.frzs,I.base.tbls⟩,⟨m,hn.sameBut hs (_bM (cne x c hc)),λj y v' e1 e2 e3=>?_⟩,λy c' e=>?_,is!,k7!,bo! ?_,bT ⟨oc,j3,I.freeC x c hc⟩ hs,by simpa using I.len⟩ ⟨c,hs,R! hc⟩
  ·obtain⟨sl,e1⟩:=pT! b o e n hb hx;exact⟨sl,bL! (hs.2 b (_D (_i cX! (I.ok.cab x c gM hc)))) e1⟩
  ·obtain⟨o',e1⟩:=ox! o e hx;exact⟨o',bL! (hs.2 b (_D (_i cX! (I.ok.cab x c gM hc)))) e1⟩
  ·by_cases hj:j=i
   ·subst hj;rw[hi]at e1;cases e1;rw[_ag i8]at e2;cases e2;exact⟨u,r,R! ⟨w! hk,c,hc,cC⟩⟩
   ·rw[_ab (_bM hj)]at e2;obtain⟨u',r',q⟩:=hl j y v' e1 e2 e3;refine aQ! u' r' ?_;rcases q with q | ⟨k,c',e,z'⟩;·exact w! q
    ·refine R! ⟨k,c',e,z'.sameBut hs ?_⟩;rintro rfl;exact hj (zdn hN e1 (I.ok.inj _ _ _ e hc ▸ hi))
  ·by_cases hcc:c'=c;·subst hcc;exact gc! cC
   ·obtain⟨w2,z2⟩:=I.cell y c' e;exact⟨w2,z2.sameBut hs hcc⟩
  ·obtain⟨e,n,ne,nf,d⟩:=kP! hp;refine⟨bL! (hs.2 p.1 ?_) e,n,ne,nf,d⟩;intro q;rw[q,j3]at e;exact d w' (by rw[<- (_I e)];exact gN)
theorem z2r(I:K!)(hN:X.N.Nodup)(hi:gd! x)(hx:h0! x)(r:wA v u) (h:∀s',ky! (lK! i) H s'->Q () s')(hf:h2! (g8! x\/fB! x)):fk! M A (storeName aX! x u) Q E:= z6N I hN hi hx r (λs' I' _=>h s' I') hf
theorem Inv.call'(I:K!)(ho:pW!=s.os)(u:Un sw! ch H H' G! gs!)(hok:HOk aR! X.w H' gs!)(hg:q0!) (cR:∀b∈ch,(b∈k5!\/X.s₀.heap.objs.size<=b)/\iC! b/\(∀x c,gy! x c->c≠b)/\∀p∈ir!++ae,p.1≠b):cB! H' s':=by
 obtain⟨h',g',d',t',o'⟩:=s';subst ho;exact I.call u hok hg cR
end
abbrev XK:=dG!->oz!->ck!
noncomputable abbrev St:=l8! V
abbrev VK:=V->ck!
abbrev TE:=St->Hp->ej!
abbrev TT:=St->Hp->(b5!->ck!)->j!
abbrev TA:=St->Hp->(aU!->ck!)->j!
structure zmR where
 nx:St->ck!
 rt:VK
 bk:St->ck!:=iE!
 ct:St->ck!:=iE!
abbrev TS:=zmR->St->ck!
def EP(X:Cx)(ae:c4!)(O:St)(Q:VK)(u:Value)(s':Shared):j!:=∃v H',cB! H' s'/\wA v u/\Q v H'
def TP(X:Cx)(ae:c4!)(O:St)(Q:b5!->ck!)(b:Bool)(s':Shared):j!:=∃H',cB! H' s'/\Q b H'
def AP(X:Cx)(ae:c4!)(O:St)(Q:aU!->ck!)(us:cR!)(s':Shared):j!:=∃vs H',cB! H' s'/\j1! vs/\Q vs H'
def SP(X:Cx)(ae:c4!)(D:zmR)(f:Flow)(s':Shared):j!:= match f with
 | .next=>∃O' H',ky! O' H' s'/\D.nx O' H' | .brk=>∃O' H',ky! O' H' s'/\D.bk O' H' | .cont=>∃O' H',ky! O' H' s'/\D.ct O' H' | .ret u=>∃v O' H',ky! O' H' s'/\wA v u/\D.rt v H'
def PE(X:Cx)(e:Expr)(t:TE):j!:= ∀(ae:List (Addr×Obj))(s:Shared)(O:St)(H:Hp)(Q:VK),K!->t O H Q->bI! (g0! e) (EP X ae O Q) s
def PT(X:Cx)(e:Expr)(t:TT):j!:= ∀(ae:List (Addr×Obj))(s:Shared)(O:St)(H:Hp)(Q:Bool->Hp->Prop),K!->t O H Q->bI! (pX! e aX! (g0! e)) (TP X ae O Q) s
def PW(X:Cx)(e:Expr)(t:TT):j!:= ∀(whole:Sem Value)(ae:List (Addr×Obj))(s:Shared)(O:St)(H:Hp)(Q:Bool->Hp->Prop),K!->t O H Q->bI! (pX! e aX! whole) (TP X ae O Q) s
theorem PW.pt(h:PW X e t):PT X e t:=h _
def PA(X:Cx)(es:aC!)(t:TA):j!:= ∀(pos:Pos)(ae:List (Addr×Obj))(s:Shared)(O:St)(H:Hp)(Q:List V->Hp->Prop),K!->t O H Q->bI! (spliced (hC! pos es)) (AP X ae O Q) s
def PS(X:Cx)(st:Stmt)(t:TS):j!:= ∀(ae:List (Addr×Obj))(s:Shared)(O:St)(H:Hp)(D:zmR),K!->t D O H->bI! (exec st aX!) (SP X ae D) s
def PSs(X:Cx)(st:ng!)(t:TS):j!:= ∀(ae:List (Addr×Obj))(s:Shared)(O:St)(H:Hp)(D:zmR),K!->t D O H->bI! (execs st aX!) (SP X ae D) s
theorem thn{Q Q':α->eh!} (h:fk! M A t Q E)(hQ:∀a s,Q a s->Q' a s):fk! M A t Q' E:=_Z h hQ λ_ _ x=>x
section
variable {X:Cx}
theorem bin(ha:U! a ta)(hb:U! b tb) {O:St} {R:V->V->ck!}(I:K!)(h:ta O H (hu! (tb O H1 λy H2=>R x y H2))) {f:dG!->dG!->Sem α} (hf:∀v u s2 x y H2,cB! H2 s2->wA x v->wA y u->R x y H2->bI! (f v u) Q s2): bI! (g0! a) (λv s₁=>bI! (g0! b) (λu s₂=>bI! (f v u) Q lX!) i0!) s:=by exact thn (ha ae s O H _ I h) λv s1 ⟨x,H1,I1,r1,q1⟩=>(thn (hb ae s1 O H1 _ I1 q1) λu s2 ⟨y,H2,I2,r2,q2⟩=>(hf v u s2 x y H2 I2 r1 r2 q2))
def zuX(i:Nat):TE:=gt! (∃v,aj! O bx!/\Q v H)
def tC(v:V):TE:=λ_ H Q=>Q v H
theorem zkY{pos:Pos}(hN:gd! x)(hv:sk! x)(hd:b8! (x==cz!))(bA:b8! (x==l! "__classdict__")):U! mF! (zuX i):=by
 intro ae s O H Q I h;obtain⟨v,e,h⟩:=h;obtain⟨m,hn,hl⟩:=I.loc;obtain⟨u,r,l⟩:=hl i x v hN e hv;have fin:EP X ae O Q u s:=⟨v,H,I,r,h⟩;rcases l with⟨hk,hm⟩ | ⟨hk,c,hc,bU⟩;·exact wpAny_Name (wpAny_loadName_local pV! hk hn hm fin) hd
 ·rcases hk with hk | hk;·exact wpAny_Name (wpAny_loadName_cell pV! hk hc bU fin) hd
  ·exact wpAny_Name (wpAny_loadName_free pV! hk hc bU fin bA) hd
theorem zlC: U! (jm! ac! pos) (tC ac!):=oX! (wpAny_Constant_int ⟨ac!,H,ia!,ch! _,h⟩)
theorem zsq: U! (jm! kN! pos) (tC ho!):=oX! (Constant_bool (bj! ho! H I h))
theorem zpD: U! (jm! X! pos) (tC at!):=oX! (Constant_none (bj! at! H I h))
theorem zl4: U! (jm! bQ! pos) (tC bQ!):=oX! (_cv ⟨bQ!,H,ia!,ch! _,h⟩)
def Gl(X:Cx)(x:Str):j!:=X.env.kindOf x=b! .globalImplicit
theorem z3u{O:St} (I:K!)(hg:eL!)(hm:X.mg x=b! u)(h:Q u s) (hd:b8! (x==cz!)):lv! (g0! mF!) Q E s:= Calls.Name_function_global pV! hg (Calls.loadGlobal_global (by rw[I.ok.glob];exact I.mod.glob.keeps I.bk) hm h) hd
theorem z1t{E:bP!} {O:St} {pos:Pos} (I:K!)(hg:eL!)(hm:dx! x)(hv:kz! x u)(h:Q u s) (hn:jK! (lB! x))(hd:b8! (x==cz!)):lv! (g0! mF!) Q E s:=by
 obtain⟨mb,h1,h2⟩:=I.mod.blt;exact Calls.Name_function_global pV! hg (Calls.loadGlobal_builtin (by rw[I.ok.glob];exact I.mod.glob.keeps I.bk) hm (by rw[I.ok.blt];exact h1.keeps I.bk) (bL! (h2 x hn) hv) h) hd
theorem z6z(hg:eL!)(hm:X.mg x=b! u)(r:wA v u)(hd:b8! (x==cz!)):U! mF! (tC v):= oX! (z3u I hg hm ⟨v,H,I,r,h⟩ hd)
theorem z9k{pos:Pos}(hg:eL!)(hm:dx! x)(hv:kz! x u)(r:wA v u)(hn:jK! (lB! x))(hd:b8! (x==cz!)):U! mF! (tC v):= oX! (z1t I hg hm hv ⟨v,H,I,r,h⟩ hn hd)
variable {a b:Expr}{ta tb:TE}{pos:Pos}
def PC(X:Cx)(op:CmpOp)(a b:Expr)(t:TE):j!:= ∀(ae:List (Addr×Obj))(s:Shared)(O:St)(H:Hp)(Q:VK),K!->t O H Q-> bI! (g0! a) (λv s₁=>bI! (g0! b) (λu s₂=>bI! (compareOp op v u) (EP X ae O Q) lX!) i0!) s
def tB(t:TE):TT:=kI! O H (hu! (∃c,x=.bl c/\Q c H1))
theorem ztY(h:PC X op a b t)(h1:pz! b=t!:=by first | exact nobehind _ (by decide) (by decide) | rfl):PT X (.Compare a [op] [b] pos) (tB t):=by
 refine λae s O H Q I hw=>wpAny_isTrue_Compare1 (thn (h ae s O H _ I hw) λv s1 h1=>thn h1 λu s2 h2=>thn h2 λc s3 ⟨x,H1,I1,r1,q1⟩=>?_) h1;obtain⟨d,rfl,q⟩:=q1;cases r1;exact _aT ⟨H1,I1,q⟩
theorem zpT(h:U! e t)(he:autoParam (∀whole,pX! e aX! whole=(do let v <- whole;standAt e.pos;nM! [v] (truthy v))) aIr):PT X e (tB t):=by
 refine λae s O H Q I hw=>isTrue_plain (thn (h ae s O H _ I hw) λv s1 ⟨x,H1,I1,r1,q1⟩=>?_) (he _);obtain⟨d,rfl,q⟩:=q1;cases r1;exact _aT ⟨H1,I1,q⟩
variable {tA gb:TT}{jI:aC!}
def zu5(t u:TT):TT:=kI! O H (λc H1=>aG! c (u O H1 Q) (Q t! H1))
def tOr(t u:TT):TT:=kI! O H (λc H1=>aG! c (Q c! H1) (u O H1 Q))
def zuZ(t:TT):TT:=kI! O H (λc H1=>Q (!c) H1)
theorem zn6(ha:PT X a tA):PW X (g3! .And [a]) tA:=by
 refine λwh ae s O H Q I h=>isTrue_and (thn (ha ae s O H Q I h) λc s1 e=>?_);cases c with
 | true=>exact isTrue_and_nil e | false=>exact e
theorem zp9(ha:PT X a tA):PW X (g3! .Or [a]) tA:=by
 refine λwh ae s O H Q I h=>isTrue_or (thn (ha ae s O H Q I h) λc s1 e=>?_);cases c with
 | false=>exact isTrue_or_nil e | true=>exact e
theorem zp6(ha:PT X a tA)(hb:PW X (g3! .And (b::jI)) gb):PW X (g3! .And (a::b::jI)) (zu5 tA gb):=by
 refine λwh ae s O H Q I h=>isTrue_and (thn (ha ae s O H _ I h) λc s1 ⟨H1,I1,q1⟩=>?_);cases c with
 | true=>exact hb wh ae s1 O H1 Q I1 q1 | false=>exact aQ! H1 I1 q1
theorem zst(ha:PT X a tA)(hb:PW X (g3! .Or (b::jI)) gb):PW X (g3! .Or (a::b::jI)) (tOr tA gb):=by
 refine λwh ae s O H Q I h=>isTrue_or (thn (ha ae s O H _ I h) λc s1 ⟨H1,I1,q1⟩=>?_);cases c with
 | true=>exact aQ! H1 I1 q1 | false=>exact hb wh ae s1 O H1 Q I1 q1
theorem zoC(ha:PT X a tA):PT X (.UnaryOp .Not a pos) (zuZ tA):=it! (isTrue_not (ha ae s O H (λc H1=>Q (!c) H1) I h))
def zrp(ta tb:TE):TE:=gt! (ta O H (hu! (∃c,x=.bl c/\aG! c (tb O H1 Q) (Q dg! H1))))
def zse(ta:TE):TE:=gt! (ta O H (hu! (∃c,x=.bl c/\Q (.bl (!c)) H1)))
theorem zoV(h:U! a t):U! (g3! op [a]) t:=λae s O H Q I hw=>BoolOp_one (h ae s O H Q I hw)
theorem zoc(ha:U! a ta)(hb:U! (g3! .And (b::jI)) tb):U! (g3! .And (a::b::jI)) (zrp ta tb):=by
 refine it! (BoolOp_and (thn (ha ae s O H _ I h) λv s1 ⟨x,H1,I1,r1,q1⟩=>?_));obtain⟨c,rfl,q1⟩:=q1;cases r1;refine _aT ?_;cases c with
 | true=>exact hb ae s1 O H1 Q I1 q1 | false=>exact bj! dg! H1 I1 q1
theorem zq2(ha:U! a ta):U! (.UnaryOp .Not a pos) (zse ta):=by
 refine it! (UnaryOp_ (thn (ha ae s O H _ I h) λv s1 ⟨x,H1,I1,r1,q1⟩=>?_));obtain⟨c,rfl,q1⟩:=q1;cases r1;exact not_of (_aT (bj! (.bl (!c)) H1 I1 q1))
def tIf(t:TT)(ta tb:TE):TE:=kI! O H (λc H1=>aG! c (ta O H1 Q) (tb O H1 Q))
theorem zjk(hc:PT X c tA)(ha:U! a ta)(hb:U! b tb):U! (.IfExp c a b pos) (tIf tA ta tb):=by
 refine it! (wpAny_IfExp (thn (hc ae s O H _ I h) λd s1 ⟨H1,I1,q1⟩=>?_));cases d with
 | true=>exact ha ae s1 O H1 Q I1 q1 | false=>exact hb ae s1 O H1 Q I1 q1
end
def SqL(K:W.Frag)(H:Hp)(a:Addr)(xs:aU!):j!:= Rd H a cD!\/ ∃(o:Obj)(af:Array Value)(n:Nat),oC!=b! o/\fV!=c1!/\o.dict=a!/\hU!=.seq af n/\af.size<=aW!/\xn xs oT!
def SqT(K:W.Frag)(H:Hp)(a:Addr)(xs:aU!):j!:= Rd H a aD!\/ ∃(o:Obj)(af:Array Value)(n:Nat),oC!=b! o/\fV!=du!/\hU!=.seq af n/\af.size<=aW!/\xn xs oT!
noncomputable def zv4:dG!->bh! V
 | .none=>b! at! | .bool b=>b! ho! | .int i _=>e! i | .str x _=>b! bQ! | .bytes b _=>b! (.byt b) | .float b _=>b! (.flt b) | .ref a=>a3! a | .type n=>b! (.ty n) | _=>none
theorem wA.abs(r:wA x u):zv4 u=dR!:=by cases x with
 | non=>cases r;rfl | bl _=>cases r;rfl | int _=>obtain⟨t,rfl⟩:=r;rfl | str _=>obtain⟨t,rfl⟩:=r;rfl | byt _=>obtain⟨t,rfl⟩:=r;rfl | flt _=>obtain⟨t,rfl⟩:=r;rfl | ref _=>cases r;rfl | ty _=>cases r;rfl
theorem wA.inj(r:wA x u)(q:wA y u):x=y:=_I (r.abs.symm.trans q.abs)
theorem xn.inj:∀{xs ys:List V}{us:List Value},iN!->j1! ys->xs=ys
 | _,_,_,.nil,.nil=>rfl | _,_,_,.cons r t,.cons r' t'=>by rw[r.inj r',xn.inj t t']
section
variable {X:Cx}{ae:c4!}{O:St}{H:Hp}{s:Shared}{a:Addr}{xs ys:aU!}
theorem Inv.list(I:K!)(h:SqL X.K H a xs):∃af:List Value,hr! xs/\PlainL G! a e2!/\v!<=aW!:=by
 rcases h with h | ⟨o,af,n,hk,hc,hd,hs,hz,r⟩
 ·obtain⟨z,af,n,r,e⟩:=h.ok er!;exact⟨af,r,⟨_,n,e,rfl,rfl,rfl⟩,z⟩
 ·refine⟨oT!,r,⟨o,n,I.kIn a o hk,hc,hd,by exact hs⟩,?_⟩;have e:=r.length;simp only[_aW]at e;lia
theorem Inv.tuple(I:K!)(h:en! X.K a xs):∃af:List Value,hr! xs/\IsTup G! a e2!/\v!<=aW!:=by
 rcases h with h | ⟨o,af,n,hk,hc,hs,hz,r⟩
 ·obtain⟨z,af,r,p⟩:=h.ok er!;exact⟨af,r,p.tup,z⟩
 ·refine⟨oT!,r,⟨o,I.kIn a o hk,hc,n,by exact hs⟩,?_⟩;have e:=r.length;simp only[_aW]at e;lia
theorem Inv.list_inj(I:K!)(h:SqL X.K H a xs)(h':SqL X.K H a ys):xs=ys:=by
 obtain⟨af,r,⟨o,n,e,_,_,d⟩,_⟩:=I.list h;obtain⟨aP,r',⟨o',n',e',_,_,d'⟩,_⟩:=I.list h';rw[e]at e';cases e';rw[d]at d';injection d' with d1 _;have:af=aP:=by exact _aK Array.toList d1
 subst this;exact r.inj r'
theorem Inv.tuple_inj(I:K!)(h:en! X.K a xs)(h':en! X.K a ys):xs=ys:=by
 obtain⟨af,r,⟨o,e,_,n,d⟩,_⟩:=k8! h;obtain⟨aP,r',⟨o',e',_,n',d'⟩,_⟩:=k8! h';rw[e]at e';cases e';rw[d]at d';injection d' with d1 _;have:af=aP:=by exact _aK Array.toList d1
 subst this;exact r.inj r'
end
noncomputable abbrev Cx.wish(X:Cx)(E:bP!):Cx:={X with xe:=E}
noncomputable abbrev Cx.nox(X:Cx):Cx:=pY! iE!
theorem Cx.Ok.wish{X:Cx}(ok:X.Ok)(E:bP!):(pY! E).Ok:= ⟨ok.mod,ok.kind,ok.glob,ok.blt,ok.above,ok.inj,ok.has,ok.cab,ok.hd,ok.frames,ok.stk,ok.exf,ok.bs,ok.bsz,ok.noex,ok.exfs,ok.funs,ok.frf⟩
theorem Cx.Ok.unwish{X:Cx} (ok:(pY! E).Ok):X.Ok:= ⟨ok.mod,ok.kind,ok.glob,ok.blt,ok.above,ok.inj,ok.has,ok.cab,ok.hd,ok.frames,ok.stk,ok.exf,ok.bs,ok.bsz,ok.noex,ok.exfs,ok.funs,ok.frf⟩
section
variable {X:Cx}{ae:c4!}{O:St}{H:Hp}{s:Shared}{E:bP!}
theorem Inv.wish(I:K!)(E:bP!):Inv (pY! E) ae O H s:=⟨I.ok.wish E,jz!,iZ!,nJ!,lW!,nK!,is!,k7!,I.pin,er!,k6!⟩
theorem Inv.unwish(I:Inv (pY! E) ae O H s):K!:=⟨I.ok.unwish,jz!,iZ!,nJ!,lW!,nK!,is!,k7!,I.pin,er!,k6!⟩
theorem SP.unwish{D:zmR}{f:Flow}{s':Shared}(h:SP (pY! E) ae D f s'):SP X ae D f s':=by cases f with
 | next=>obtain⟨O',H',I,q⟩:=h;exact⟨O',H',I.unwish,q⟩ | brk=>obtain⟨O',H',I,q⟩:=h;exact⟨O',H',I.unwish,q⟩ | cont=>obtain⟨O',H',I,q⟩:=h;exact⟨O',H',I.unwish,q⟩ | ret u=>obtain⟨v,O',H',I,r,q⟩:=h;exact⟨v,O',H',I.unwish,r,q⟩
theorem PSs.nox{st:ng!} (h:PSs X.nox st t):PSs X st t:=λae s O H D I hw=> _Z (h ae s O H D (I.wish _) hw) (λ_ _ q=>q.unwish) λ_ _ z=>lY! z
end
section
variable {X:Cx}{st:Stmt}{jI:ng!}{t u:TS}{e:Expr}{te:TE}{pos:Pos}
def zrI:TS:=k9! (D.nx O H)
def ztH(t u:TS):TS:=k9! (t {D with nx:=u D} O H)
theorem zm0:PSs X [] zrI:=λ_ _ O H _ I h=>_cj ⟨O,H,I,h⟩
theorem ziz(h1:PS X st t)(h2:PSs X jI u):PSs X (st::jI) (ztH t u):=by
 refine mZ! (wpAny_execs_cons (thn (h1 ae s O H {D with nx:=u D} I h) λf s1 q=>?_));cases f with
 | next=>
  obtain⟨O',H',I',q⟩:=q;exact h2 ae s1 O' H' D I' q | ret v=>exact q | brk=>exact q | cont=>exact q
theorem zlZ(h1:PS X st t):PSs X [st] t:=by
 refine mZ! (wpAny_execs_cons (thn (h1 ae s O H D I h) λf s1 q=>?_));cases f with
 | next=>exact _cj q | ret v=>exact q | brk=>exact q | cont=>exact q
theorem Inv.quiet{O:St} (I:K!):interactive aX!=t!:=by simp[interactive,I.ok.kind]
def zsj(te:TE):TS:=k9! (te O H λ_ H1=>D.nx O H1)
theorem zn1(he:U! e te)(hs:y! (md! e a! nN!=mo!)):PS X (.Expr e pos) (zsj te):=mZ! (wpAny_Expr_any (thn (he ae s O H _ I h) λv s1 ⟨x,H1,I1,r1,q1⟩=>⟨O,H1,I1,q1⟩) I.quiet hs)
def zuz(te:TE):TS:=k9! (te O H D.rt)
theorem zoD(he:U! e te):PS X (.Return A! pos) (zuz te):=mZ! (wpAny_Return_some (thn (he ae s O H _ I h) λv s1 ⟨x,H1,I1,r1,q1⟩=>⟨x,O,H1,I1,r1,q1⟩))
def zv1(c:TT)(t u:TS):TS:=k9! (c O H λb H1=>aG! b (t D O H1) (u D O H1))
theorem zt6(hc:PT X c tc)(ha:PSs X a t)(hb:PSs X b u):PS X (.If c a b pos) (zv1 tc t u):=by
 refine mZ! (wpAny_If (thn (hc ae s O H _ I h) λd s1 ⟨H1,I1,q1⟩=>?_));cases d with
 | true=>exact ha ae s1 O H1 D I1 q1 | false=>exact hb ae s1 O H1 D I1 q1
def zos:TS:=e5! mY!
theorem ziJ:PS X st zos:=λ_ _ _ _ _ _ h=>h.elim
end
abbrev TG:=V->St->Hp->(St->ck!)->j!
abbrev TGs:=aU!->St->Hp->(St->ck!)->j!
def PG(X:Cx)(bC:Expr)(t:TG):j!:= ∀(ae:List (Addr×Obj))(s:Shared)(O:St)(H:Hp)(v:V)(u:Value)(Q:St->Hp->Prop),K!->wA v u->t v O H Q-> bI! (assign bC aX! u) (λ_ s'=>∃O' H',ky! O' H' s'/\Q O' H') s
def PGs(X:Cx)(ts:aC!)(t:TGs):j!:= ∀(ae:List (Addr×Obj))(s:Shared)(O:St)(H:Hp)(vs:List V)(us:List Value)(Q:St->Hp->Prop),K!->j1! vs->t vs O H Q-> bI! (assignInOrder ((oq! ts).map (·.2)) us) (λ_ s'=>∃O' H',ky! O' H' s'/\Q O' H') s
abbrev ztV:=V->V->V->Hp->ck!->j!
def ztW(X:Cx)(t:ztV):j!:= ∀(ae:List (Addr×Obj))(s:Shared)(O:St)(H:Hp)(o i v:V)(ov iv u:Value)(Q:Hp->Prop),K!->wA o ov->wA i iv->wA v u->t o i v H Q-> bI! (setItem ov iv u) (λ_ s'=>∃H',cB! H' s'/\Q H') s
section
variable {X:Cx}{pos:Pos}
noncomputable def zew(i:Nat):TG:=λv O H Q=>Q (lK! i) H
theorem zS(hN:X.N.Nodup)(hi:gd! x)(hx:h0! x)(hf:h2! (g8! x\/fB! x)):PG X mF! (zew i):=λae s O H v u Q I r h=>_cP (z2r I hN hi hx r (λs' I'=>⟨_,H,I',h⟩) hf)
noncomputable def ztK:TGs:=λvs O H Q=>vs=[]/\Q O H
def zmQ(t:TG)(u:TGs):TGs:=λvs O H Q=>∃v r,vs=v::r/\t v O H λO' H'=>u r O' H' Q
theorem zhs:PGs X [] ztK:=by
 intro ae s O H vs us Q I r h;obtain⟨e,h⟩:=h;exact assignInOrder_nil ⟨O,H,I,h⟩
theorem z5o(h1:PG X e t)(h2:PGs X es u) (hs:y! ((oq! (e::es)).map (·.2)=assign e aX!::(oq! es).map (·.2))):PGs X (e::es) (zmQ t u):=by
 intro ae s O H vs us Q I r h;obtain⟨v,vr,e1,h⟩:=h;subst e1;cases r with | cons r rr=>
  rw[hs];exact _cx (thn (h1 ae s O H _ _ _ I r h) λ_ s1 ⟨O1,H1,I1,q1⟩=>(h2 ae s1 O1 H1 _ _ Q I1 rr q1))
def ztX(K:W.Frag)(n:Nat)(t:TGs):TG:=λv O H Q=>∃a xs,v=ad!/\en! K a xs/\v!=n/\t xs O H Q
theorem zlm{k:Nat} (hc:bY!)(h:PGs X es t) (hn:y! (r! (oq! es)=n))(dH:y! ((oq! es).findIdx? (·.1)=a!)):PG X (hv! es k pos) (ztX X.K n t):=by
 intro ae s O H v u Q I r hw;obtain⟨a,xs,e1,hq,hl,hw⟩:=hw;subst e1;cases r;obtain⟨af,rv,ht,hz⟩:=nf!;exact assign_Tuple_tuple g2! ht (by simp[hn,<- hl,rv.length]) dH λh' hx=>(h ae _ O H xs _ Q (I.kept (t':=s.toks) (gr! (hx b o (_D cX!) e))) (by exact rv) hw)
noncomputable def zuU(to ti:TE)(t:ztV):TG:=λv O H Q=>to O H λo H1=>ti O H1 λi H2=>t o i v H2 λH3=>Q O H3
theorem zo5(ho:U! o to)(hi:U! i ti)(hs:ztW X t) (ha:∀v,assign (mi! o i) aX! v=(do
   let ov <- nM! [v] gg! let iv <- nM! [v,ov] (g0! i)
   standAt pos
   nM! [v,ov,iv] (setItem ov iv v)
   release [v,ov,iv] []):=by intro _;rfl):PG X (mi! o i) (zuU to ti t):=by
 intro ae s O H v u Q I r h;exact _a (_aR (thn (ho ae s O H _ I h) λov s1 ⟨x,H1,I1,r1,q1⟩=>(_a (_aR (thn (hi ae s1 O H1 _ I1 q1) λiv s2 ⟨y,H2,I2,r2,q2⟩=>(_a (_cb (_a (_aR (thn (hs ae s2 O H2 x y v ov iv u _ I2 r1 r2 r q2) λ_ s3 ⟨H3,I3,q3⟩=>(wpAny_release ⟨O,H3,I3,q3⟩)))))))))))
def zro(te:TE)(g:TG):TS:=k9! (te O H (hu! (g x O H1 D.nx)))
theorem zl1(he:U! e te)(hg:PG X tg g)(hs:y! (rB! [tg] e aX!=mo!))(hw:y! (rE! [tg] e=dH! a!)) (h1:y! ((oq! [tg]).map (·.2)=[assign tg aX!])):PS X (.Assign [tg] e pos) (zro te g):=by
 refine mZ! (wpAny_Assign_stores (thn (he ae s O H _ I h) λv s1 ⟨x,H1,I1,r1,q1⟩=>?_) hs hw);rw[h1];exact thn (hg ae s1 O H1 x v _ I1 r1 q1) λ_ s2 q=>q
theorem zqj(hN:X.N.Nodup)(hi:gd! x)(hx:h0! x)(he:U! e te)(hs:y! (md! e (b! (ff! cD)) nN!=mo!))(hf:h2! (g8! x\/fB! x)): PS X (.Assign [ff! cD] e pos) (zro te (zew i)):=by exact mZ! (wpAny_Assign_Name (thn (he ae s O H _ I h) λv s1 ⟨y,H1,I1,r1,q1⟩=>(z2r I1 hN hi hx r1 (λs2 I2=>⟨_,H1,I2,q1⟩) hf)) hs)
def zue(i j:Nat)(ta:TA):TS:=k9! (ta O H λvs H1=>∃v w,vs=[v,w]/\D.nx (iK! (lK! i) j w) H1)
theorem zpf(hc:bY!) (hN:X.N.Nodup) (hi:gd! x) (hj:E! X.N j y) (aJ:i≠j) (hx:fB! x) (hy:fB! y) (ha:PA X [a,b] ta) (hw:rE! [jp! [ff! px,gm!] pt] (hv! [a,b] k2 d8)=dH! (b! [x,y])) (hs:y! (rB! [jp! [ff! px,gm!] pt] (hv! [a,b] k2 d8) aX!=mo!)): PS X (.Assign [jp! [ff! px,gm!] pt] (hv! [a,b] k2 d8) pos) (zue i j ta):=by
 refine mZ! (_a (_cb ?_));refine _a (_m (_a (Tuple_ (thn (ha _ ae s O H _ I h) λus s1 ⟨vs,H1,I1,r1,q1⟩=>?_))));obtain⟨v,w,e1,q1⟩:=q1;subst e1;obtain⟨u1,u2,rfl,rv,eN⟩:∃u1 u2,us=[u1,u2]/\wA v u1/\wA w u2:=by cases r1 with | cons p q=> cases q with | cons p' q'=>
    cases q';exact gB! _ _ p p'
 refine _aE ?_ (by show 2<=aW!;decide);have I2:cB! H1 ({s1 with heap:=pZ! ({cls:=du!,data:=oE! [u1,u2]})}):=nO! (lI! _ e);rw[hw];refine _a (_m ?_);refine _a (_cy (_a (unpackItems_tuple (items:=#[u1,u2]) g2! (IsTup.new p0! _) λh' hx'=>(_a (_cx (wpAny_bindName (z2r (I2.kept (h':=h') (t':=s1.toks) (gr! (hx' b o (_D cX!) e))) hN hj (w! hy) eN (λs2 I4=>?_) (R! hy))))))));refine _cx (wpAny_bindName (z2r I4 hN hi (w! hx) rv (λs3 I5=>assignInOrder_nil (_m ?_)) (R! hx)));rw[List.set_comm _ _ (_bM aJ)]at I5;exact⟨_,H1,I5,q1⟩
end
section
variable {X:Cx}{pos:Pos}
def zoJ(c:TT)(tb:TS):TS:=k9! (∃W:Nat->St->Hp->Prop,(∃m,W m O H)/\∀m O H,W m O H-> c O H λb H1=>aG! b (∃N:St->Hp->Prop,(∀O' H',N O' H'->∃m',m'<m/\W m' O' H')/\tb {D with nx:=N,ct:=N,bk:=D.nx} O H1) (D.nx O H1))
theorem zk5(hp:PassesOwn (oy! X.w) X.A aX! X.xe)(hc:PT X c tc)(hb:PSs X dI! tb):PS X (.While c dI! [] pos) (zoJ tc tb):=by
 intro ae s O H D I h;obtain⟨W,⟨m0,w0⟩,turn⟩:=h;refine wpAny_While (codeAny_whileLoop (λn s'=>∃O' H',ky! O' H' s'/\W n O' H') ?_ m0 ⟨O,H,I,w0⟩);rintro n s1 ⟨O1,H1,I1,w1⟩;refine _a5 hp (thn (hc ae s1 O1 H1 _ I1 (turn n O1 H1 w1)) λb s2 ⟨H2,I2,q2⟩=>?_);cases b with
 | true=>
  obtain⟨N,hN,q2⟩:=q2;refine _a5 hp (thn (hb ae s2 O1 H2 _ I2 q2) λf s3 q3=>?_);cases f with
  | next=>
   obtain⟨O3,H3,I3,n3⟩:=q3;obtain⟨m',hm,w3⟩:=hN O3 H3 n3;exact⟨m',hm,O3,H3,I3,w3⟩ | cont=>
   obtain⟨O3,H3,I3,n3⟩:=q3;obtain⟨m',hm,w3⟩:=hN O3 H3 n3;exact⟨m',hm,O3,H3,I3,w3⟩ | brk=>exact q3 | ret v=>exact q3
 | false=> exact _cj ⟨O1,H2,I2,q2⟩
end
structure It where
 go:Nat->ck!
 yld:Nat->Hp->V->ck!
 stop:Nat->ck!
def zbQ(X:Cx)(ae:c4!)(H:Hp)(b:Addr):j!:= eN!/\iC! b/\b∉iY!/\(b∈k5!\/X.s₀.heap.objs.size<=b)/\(∀x c,gy! x c->c≠b)/\∀p∈ir!++ae,p.1≠b
theorem Inv.fpOk{O:St} {b:Addr}(I:K!)(hb:am!<=b)(hn:fJ! b):zbQ X ae H' b:=by
 refine⟨hn,_cq (_i I.lt hb),I.nofs hb,R! (_Y I.sz hb),λx c e z=>?_,λp hp z=>(kD! (_i (_r (kP! hp).1) (by rw[z];exact hb)) _)⟩
 ·obtain⟨v,q⟩:=nn! x e;exact kD! (_i q.lt (by rw[z];exact hb)) _
structure zjd(P:Program)(w:World)(K:W.Frag)(tg:Expr)(J:It)(fp:bk!)(it:Addr)(tn:Nat->Heap->j!):j! where
 mem:it∈fp
 obj:∀i h,tn i h->∀b∈fp,∃o,cx! b/\∀v,hU!≠.cell v
 keep:∀i h h',tn i h->(∀b∈fp,∀o,cx! b->dn! b)->tn i h'
 item:∀(X:Cx),aR!=P->X.w=w->X.K=K->bY!->∀(i:Nat)(ae:List (Addr×Obj))(s:Shared)(O:St)(H:Hp)(E:Value->Shared->Prop),K!->(∀b∈fp,zbQ X ae H b)->tn i G!->J.go i H-> fY! P w X.A (oY! j5!) (λr s1=>∃u,r=b! u/\ fY! P w X.A (letOwnedTupleGo tg j5! u) (λ_ s2=>∃x H',cB! H' s2/\wA x u/\J.yld i H x H'/\tn (i+1) s2.heap/\∀b∈fp,fJ! b) E s1) E s
 done:∀(X:Cx),aR!=P->X.w=w->X.K=K->bY!->∀(i:Nat)(ae:List (Addr×Obj))(s:Shared)(O:St)(H:Hp)(E:Value->Shared->Prop),K!->(∀b∈fp,zbQ X ae H b)->tn i G!->J.stop i H-> fY! P w X.A (oY! j5!) (λr s1=>r=a!/\lt! s1) E s
 self:∀(A:Around)(i:Nat)(s:Shared)(Q:Value->Shared->Prop)(E:Value->Shared->Prop),tn i G!->Q j5! s->fY! P w A (pyIter j5!) Q E s
abbrev TI:=St->Hp->(It->ck!)->j!
def PIE(X:Cx)(ae:c4!)(O:St)(tg:Expr)(R:It->ck!)(eP:Value)(s2:Shared):j!:= ∃(it:Addr)(fp:List Addr)(tn:Nat->Heap->Prop)(J:It)(H':Hp),eP=j5!/\cB! H' s2/\zjd aR! X.w X.K tg J fp it tn/\tn 0 s2.heap/\(∀b∈fp,zbQ X ae H' b)/\R J H'
def PI(X:Cx)(tg iter:Expr)(wi:TI):j!:= ∀(ae:List (Addr×Obj))(s:Shared)(O:St)(H:Hp)(R:It->Hp->Prop),K!->wi O H R-> bI! (g0! hV!) (λv s1=>bI! (pyIter v) (PIE X ae O tg R) s1) s
theorem ziI            (ho:da! it)(hc:fV!=aF! n)(hd:hU!=eq! vs) (hn:p1! [gp!,io!,"dict_itemiterator","dict_reverseitemiterator","odict_iterator","itertools.zip_longest","itertools.pairwise"] n=t!)(hQ:Q () s):fk! M A (letOwnedTupleGo tg j5! u) Q E:=by cases tg<;>first
    | exact _m hQ | (cases u<;>first
        | exact _m hQ
        | (refine _a (wpAny_load ho ?_);rw[hc,hd];show fk! M A (aG! (p1! [gp!,io!,"dict_itemiterator","dict_reverseitemiterator","odict_iterator","itertools.zip_longest","itertools.pairwise"] n&&vs[0]? == b! (rawInt _)) _ _) Q E;rw[_q (by intro h;rw[hn]at h;cases h)];exact _m hQ))
noncomputable def Itl(K:W.Frag)(a:Addr):It:= ⟨λi H=>∃xs x,SqL K H a xs/\aj! xs x,λi H x H'=>H'=H/\∀xs,SqL K H a xs->aj! xs x,λi H=>∃xs,SqL K H a xs/\v!<=i⟩
noncomputable def Itt(K:W.Frag)(a:Addr):It:= ⟨λi H=>∃xs x,en! K a xs/\aj! xs x,λi H x H'=>H'=H/\∀xs,en! K a xs->aj! xs x,λi H=>∃xs,en! K a xs/\v!<=i⟩
noncomputable def Itr(lo:Int)(n:Nat):It:=⟨λi _=>i<n,λi H x H'=>H'=H/\x=d! (lo+i),λi _=>n<=i⟩
theorem zgV{K:W.Frag} (a it:Addr):zjd P w K tg (Itl K a) [it] it (λi h=>h.IsListIter it a i) where
 mem:=by simp
 obj:=λi h st b hb=>by
  have e:b=it:=by simpa using hb
  subst e;obtain⟨o,e,c,d⟩:=st;exact cj! e (λv z=>by rw[d]at z;cases z)
 keep:=λi h h' st k=>st.at λo e=>k it (by simp) o e;item:=by
  intro X hP hw hK hc i ae s O H E I hf st hg;subst hP hw hK;obtain⟨xs,x,hq,hx⟩:=hg;obtain⟨af,rv,p,hz⟩:=lG!;obtain⟨u,hu,ru⟩:=rv.get hx;obtain⟨f0,f1,f2,f3,f4,f5⟩:=hf it (by simp);refine wpAny_pyNext_list_item st p.isList (by simpa using hu) λh' ay sb=>?_;obtain⟨o,e,c,d⟩:=id ay;exact aA! u (ziI e c d (by decide) ⟨x,H,(I.turned (t':=s.toks) (ki! (bL! (sb.2 b hb) e)) f0 f1 f3 f4 f5),ru,f5! (λys hy=>by rw[I.list_inj hy hq];exact hx),ay,ce! (hf b hb).1⟩)
 done:=by
  intro X hP hw hK hc i ae s O H E I hf st hg;subst hP hw hK;obtain⟨xs,hq,hx⟩:=hg;obtain⟨af,rv,p,hz⟩:=lG!;obtain⟨f0,f1,f2,f3,f4,f5⟩:=hf it (by simp);have hl:=rv.length;exact wpAny_pyNext_list_end g2! st p.isList (by simp;lia) λh' eb=>f5! (I.turned (ki! (eb b o hb e)) f0 f1 f3 f4 f5)
 self:=λ_ _ _ _ _ st h=>wpAny_pyIter_listiter st h
theorem zfb{K:W.Frag} (a it:Addr):zjd P w K tg (Itt K a) [it] it (λi h=>h.IsTupleIter it a i) where
 mem:=by simp
 obj:=λi h st b hb=>by
  have e:b=it:=by simpa using hb
  subst e;obtain⟨o,e,c,d⟩:=st;exact cj! e (λv z=>by rw[d]at z;cases z)
 keep:=λi h h' st k=>st.at λo e=>k it (by simp) o e;item:=by
  intro X hP hw hK hc i ae s O H E I hf st hg;subst hP hw hK;obtain⟨xs,x,hq,hx⟩:=hg;obtain⟨af,rv,p,hz⟩:=nf!;obtain⟨u,hu,ru⟩:=rv.get hx;obtain⟨f0,f1,f2,f3,f4,f5⟩:=hf it (by simp);refine wpAny_pyNext_tuple_item st (p) (by simpa using hu) λh' ay sb=>?_;obtain⟨o,e,c,d⟩:=id ay;exact aA! u (ziI e c d (by decide) ⟨x,H,(I.turned (t':=s.toks) (ki! (bL! (sb.2 b hb) e)) f0 f1 f3 f4 f5),ru,f5! (λys hy=>by rw[I.tuple_inj hy hq];exact hx),ay,ce! (hf b hb).1⟩)
 done:=by
  intro X hP hw hK hc i ae s O H E I hf st hg;subst hP hw hK;obtain⟨xs,hq,hx⟩:=hg;obtain⟨af,rv,p,hz⟩:=nf!;obtain⟨f0,f1,f2,f3,f4,f5⟩:=hf it (by simp);have hl:=rv.length;exact wpAny_pyNext_tuple_end g2! st (p) (by simp;lia) λh' eb=>f5! (I.turned (ki! (eb b o hb e)) f0 f1 f3 f4 f5)
 self:=λ_ _ _ _ _ st h=>wpAny_pyIter_tupleiter st h
theorem zeM{K:W.Frag} (it:Addr) (lo:Int) (n:Nat):zjd P w K tg (Itr lo n) [it] it (λi h=>IsRangeIter h it (lo+dM! i*1) (h! n-dM! i) 1) where
 mem:=by simp
 obj:=λi h st b hb=>by
  have e:b=it:=by simpa using hb
  subst e;exact bG! st (λv z=>by cases z)
 keep:=λi h h' st k=>k it (by simp) _ st;item:=by
  intro X hP hw hK hc i ae s O H E I hf st hg;subst hP hw hK;obtain⟨f0,f1,f2,f3,f4,f5⟩:=hf it (by simp);refine (Walks.range (prog:=X.prog) (w:=X.w) g2! it lo 1 n).item i s _ _ hg st λv h' tk hv ay kk=>?_;obtain⟨t,rfl⟩:=hv;have I1:lt! ({s with heap:=h',toks:=tk}):=I.turned (ki! (kk b o (by simpa using hb) e)) f0 f1 f3 f4 f5;refine aA! _ (ziI ay rfl rfl (by decide) ⟨d! (lo+i),H,I1,as! t ?_,ch! rfl,ay,ce! (hf b hb).1⟩);rw[Int.mul_one]
 done:=by
  intro X hP hw hK hc i ae s O H E I hf st hg;obtain⟨f0,f1,f2,f3,f4,f5⟩:=hf it (by simp);exact wpAny_pyNext_range_end g2! st (by have:n<=i:=hg;lia) λh' eb=>f5! (I.turned (ki! (eb b o hb e)) f0 f1 f3 f4 f5)
 self:=λ_ _ _ _ _ st h=>wpAny_pyIter_rangeiter st h
section
variable {X:Cx}{tg:Expr}
theorem zdh{ae:c4!}{O:St}{H:Hp}{s:Shared}{R:It->ck!}{E:bP!}{lo hi:Int}{t u v:Tok}{tk:Nat}(I:K!)(h1:-(2 ^ 62)<=lo)(h2:lo<2 ^ 62)(h3:-(2 ^ 62)<=hi)(h4:hi<2 ^ 62) (q:R (Itr lo (hi-lo).toNat) H):lv! (pyIter fy!) (PIE X ae O tg R) E ({s with heap:=hW! ({cls:=lA!,data:=eq! #[bJ! lo,bs! hi u,bs! 1 v]}),toks:=tk}):=by
 refine wpAny_pyIter_range (IsRange.new ..) (small_one h1 h2 h3 h4) ?_;have I1:lt! ({s with heap:=hW! ({cls:=lA!,data:=eq! #[bJ! lo,bs! hi u,bs! 1 v]}),toks:=tk}):=lZ! (lI! _ e);refine⟨d1! (hW! ({cls:=lA!,data:=eq! #[bJ! lo,bs! hi u,bs! 1 v]})),[d1! (hW! ({cls:=lA!,data:=eq! #[bJ! lo,bs! hi u,bs! 1 v]}))],_,_,H,rfl, nO! (lI! _ e),zeM _ lo (hi-lo).toNat,?_,ce! ?_,q⟩
 ·have e1:lo+dM! 0*1=lo:=by simp
  rw[e1,(show (eQ! (hi-lo):Nat)-dM! 0=Builtin.Range.rangeSize lo hi 1 from by rw[rangeSize_one];split<;>lia)];exact gN!
 ·have e:b=d1! (hW! ({cls:=lA!,data:=eq! #[bJ! lo,bs! hi u,bs! 1 v]})):=by simpa using hb
  subst e;exact rC! ah! ah!
def zr3(ta:TA):TI:=λO H R=>ta O H λvs H1=>∃j:Int,vs=[d! j]/\-(2 ^ 62)<=j/\j<2 ^ 62/\R (Itr 0 kj!) H1
def zrT(ta:TA):TI:=λO H R=>ta O H λvs H1=>∃i j:Int,vs=bO! i j/\(-(2 ^ 62)<=i/\i<2 ^ 62/\-(2 ^ 62)<=j/\j<2 ^ 62)/\R (Itr i (j-i).toNat) H1
theorem zhZ(hg:oJ!)(hm:dx! e1!)(ha:PA X [a] ta)(hs:y! (aq! [a]=[dN! a])):PI X tg (c9! e1! p [a]) (zr3 ta):=by
 refine λae s O H R I h=>Call_ (z1t I hg hm boot_range (_aa (thn (ha pos ae s O H _ I h) λus s1 ⟨vs,H1,I1,r1,q1⟩=>?_) hs rfl));obtain⟨j,e,q1,q2,q⟩:=q1;subst e;cases r1 with | cons r rr=>
  cases rr;obtain⟨t,rfl⟩:=r;exact call_range_1 (zdh I1 (by lia) (by lia) q1 q2 (by simpa using q))
theorem zgq{p pos:Pos}(hg:oJ!)(hm:dx! e1!)(ha:PA X [a,b] ta)(hs:y! (aq! [a,b]=[dN! a,dN! b]))(bV:y! (aq! [b]=[dN! b])): PI X tg (c9! e1! p [a,b]) (zrT ta):=by
 refine λae s O H R I h=>Call_ (z1t I hg hm boot_range (_aa (thn (ha pos ae s O H _ I h) λus s1 ⟨vs,H1,I1,r1,q1⟩=>?_) (by rw[hs,bV]) (by rw[bV];rfl)));obtain⟨i,j,e,⟨q1,q2,q3,q4⟩,q⟩:=q1;subst e;cases r1 with | cons r rr=> cases rr with | cons r' rr=>
   cases rr;obtain⟨t,rfl⟩:=r;obtain⟨t',rfl⟩:=r';exact call_range_2 (zdh I1 q1 q2 q3 q4 q)
def zuR(wi:TI)(g:TG)(tb:TS):TS:=k9! (wi O H λJ H1=>∃W:Nat->Nat->St->Hp->Prop,(∃m,W 0 m O H1)/\∀i m O H,W i m O H-> (J.stop i H/\D.nx O H)\/(J.go i H/\∃N:St->Hp->Prop,(∀O' H',N O' H'->∃m',m'<m/\W (i+1) m' O' H')/\∀x H',J.yld i H x H'->g x O H' λO2 H2=>tb {D with nx:=N,ct:=N,bk:=D.nx} O2 H2))
noncomputable def zbz(fp:bk!)(h:Heap):c4!:=fp.filterMap λb=>(pM! b).map λo=>(b,o)
theorem jO(hb:b∈fp)(e:cx! b):(b,o)∈zbz fp h:=_cz.mpr ⟨b,hb,by rw[e];rfl⟩
theorem zgC(hp:p∈zbz fp h):p.1∈fp/\ex! p.1 p.2:=by
 obtain⟨b,hb,e⟩:=_cz.mp hp;cases q:pM! b with
 | none=>rw[q]at e;cases e | some o=>
  rw[q]at e;have e' := _I e;subst e';exact as! hb q
theorem Inv.pinned{O:St} (I:K!)(hf:∀b∈fp,zbQ X ae H b)(ho:∀b∈fp,∃o,da! b/\∀v,hU!≠.cell v):Inv X (ae++zbz fp G!) O H s:= I.pins_of (bo! (mx! hp (λz=>kP! (_N _ z)) (λz=>by
  obtain⟨hb,e⟩:=zgC z;obtain⟨f0,f1,f2,_⟩:=hf p.1 hb;obtain⟨o,e',d⟩:=ho p.1 hb;rw[e]at e';cases e';exact⟨e,f0,f1,f2,d⟩)))
theorem Inv.unpinned{O:St} (I:Inv X (ae++pl) O H s):K!:=I.pins_of (bo! (kP! (_N _ (_a9 _ hp))))
theorem zph(hp:PassesOwn (oy! X.w) X.A aX! X.xe)(hc:bY!)(hi:PI X tg hV! wi)(hg:PG X tg g)(hb:PSs X dI! tb) (hs:kT! (kL! x=kS!)):PS X (.For tg hV! dI! [] pos) (zuR wi g tb):=by
 refine mZ! (wpAny_For (thn (hi ae s O H _ I h) λv s1 h1=>thn h1 λeP s2 h2=>?_) hs);obtain⟨it,fp,tn,J,H2,e,I2,T,bn,f2,W,⟨m0,w0⟩,turn⟩:=h2;subst e;have bE:∀{H':Hp},(∀b∈fp,fJ! b)->∀b∈fp,zbQ X ae H' b:=λhn b hb=>⟨hn b hb,(f2 b hb).2⟩;refine codeAny_forLoop_any (λn s'=>∃i O' H',ky! O' H' s'/\tn i gs!/\(∀b∈fp,fJ! b)/\W i n O' H') ?_ m0 ⟨0,O,H2,I2,bn,ce! (f2 b hb).1,w0⟩;rintro n s3 ⟨i,O3,H3,I3,cE,j4,w3⟩;rcases turn i n O3 H3 w3 with⟨stop,qn⟩ | ⟨go,N,hN,step⟩
 ·refine _a5 hp (thn (T.done X rfl rfl rfl hc i ae s3 O3 H3 X.xe I3 (bE j4) cE stop) λr s4 ⟨hr,I4⟩=>?_);subst hr;exact _cj ⟨O3,H3,I4,qn⟩
 ·refine _a5 hp (thn (T.item X rfl rfl rfl hc i ae s3 O3 H3 X.xe I3 (bE j4) cE go) λr s4 ⟨u,hr,h4⟩=>?_);subst hr;refine _a5 hp (thn h4 λ_ s5 ⟨x,H5,I5,r5,y5,gO,mP⟩=>(_a5 hp (thn (hg _ s5 O3 H5 x u _ (I5.pinned (bE mP) (T.obj _ _ gO)) r5 (step x H5 y5)) λ_ s6 ⟨O6,H6,I6,q6⟩=>?_)));refine _a5 hp (thn (hb _ s6 O6 H6 _ I6 q6) λf s7 q7=>?_);have again:∀{O7:St}{H7:Hp},Inv X (ae++zbz fp s5.heap) O7 H7 s7->N O7 H7->∃m,m<n/\∃i O' H',ky! O' H' s7/\tn i s7.heap/\(∀b∈fp,fJ! b)/\W i m O' H':=λ{O7 H7} I7 n7=>by
   obtain⟨m',hm,w7⟩:=hN O7 H7 n7;refine⟨m',hm,i+1,O7,H7,I7.unpinned,T.keep _ _ _ gO (oZ! (I7.pin (b,o) (_N _ (_N _ (jO hb e)))).1),ce! ?_,w7⟩;obtain⟨o,e,d⟩:=T.obj _ _ gO b hb;exact (I7.pin (b,o) (_N _ (_N _ (jO hb e)))).2.1
  cases f with
  | next=>obtain⟨O7,H7,I7,n7⟩:=q7;exact again I7 n7 | cont=>obtain⟨O7,H7,I7,n7⟩:=q7;exact again I7 n7 | brk=>obtain⟨O7,H7,I7,q7⟩:=q7;exact⟨O7,H7,I7.unpinned,q7⟩ | ret v=>obtain⟨x7,O7,H7,I7,r7,q7⟩:=q7;exact⟨x7,O7,H7,I7.unpinned,r7,q7⟩
end
abbrev R2:=V->V->Hp->ej!
def OpR(X:Cx)(f:dG!->dG!->Sem dG!)(r:R2):j!:= ∀(ae:List (Addr×Obj))(s:Shared)(O:St)(H:Hp)(x y:V)(v u:Value)(Q:VK),K!->wA x v->wA y u->r x y H Q-> bI! (f v u) (EP X ae O Q) s
def UnR(X:Cx)(f:dG!->Sem dG!)(r:V->Hp->ej!):j!:= ∀(ae:List (Addr×Obj))(s:Shared)(O:St)(H:Hp)(x:V)(v:Value)(Q:VK),K!->wA x v->r x H Q-> bI! (f v) (EP X ae O Q) s
def we(X:Cx)(f:Value)(r:aU!->Hp->ej!):j!:= ∀(ae:List (Addr×Obj))(s:Shared)(O:St)(H:Hp)(xs:List V)(us:List Value)(Q:VK),K!->iN!->r xs H Q-> bI! (call f us) (EP X ae O Q) s
def tOp(r:R2)(ta tb:TE):TE:=gt! (ta O H (hu! (tb O H1 λy H2=>r x y H2 Q)))
def tUn(r:V->Hp->ej!)(ta:TE):TE:=gt! (ta O H (hu! (r x H1 Q)))
def rI(C:Int->Int->j!)(g:Int->Int->V):R2:=hw! (∃i j,x=ac!/\y=d! j/\C i j/\Q (g i j) H)
def rI0(g:Int->Int->V):R2:=hw! (∃i j,x=ac!/\y=d! j/\Q (g i j) H)
def rU(g:Int->V):V->Hp->ej!:=λx H Q=>∃i,x=ac!/\Q (g i) H
section
variable {X:Cx}{a b c:Expr}{ta tb tc:TE}{pos:Pos}
theorem zsX(ha:U! a ta)(hb:U! b tb) {O:St} {R:V->V->ck!}(I:K!) (h:ta O H (hu! (tb O H1 λy H2=>R x y H2))) {f:dG!->dG!->Sem dG!} (hf:∀v u s2 x y H2,cB! H2 s2->wA x v->wA y u->R x y H2->bI! (f v u) Q s2): bI! (g0! a) (λv s₁=>bI! (g0! b) (λu s₂=>bI! (f v u) Q lX!) i0!) s:=by exact thn (ha ae s O H _ I h) λv s1 ⟨x,H1,I1,r1,q1⟩=>(thn (hb ae s1 O H1 _ I1 q1) λu s2 ⟨y,H2,I2,r2,q2⟩=>(hf v u s2 x y H2 I2 r1 r2 q2))
theorem zqN(ho:gf! op r)(ha:U! a ta)(hb:U! b tb):U! (.BinOp a op b pos) (tOp r ta tb):=it! (wpAny_BinOp (zsX ha hb I h λv u s2 x y H2 I2 rx ry q=>ho ae s2 O H2 x y v u Q I2 rx ry q))
theorem zpW(ho:UnR X (unaryOp op) r)(ha:U! a ta):U! (.UnaryOp op a pos) (tUn r ta):=it! (UnaryOp_ (thn (ha ae s O H _ I h) λv s1 ⟨x,H1,I1,r1,q1⟩=>ho ae s1 O H1 x v Q I1 r1 q1))
theorem opI{g:Int->Int->Int} (rule:∀(i j:Int) (t u:Tok) (s:Shared) (Q:Value->Shared->Prop) (E:Value->Shared->Prop),C i j->Q (bs! (g i j) ft!) {s with toks:=ft!+1}->lv! (f (bJ! i) (bs! j u)) Q E s): OpR X f (rI C (ms! (g i j))):=by
 intro ae s O H x y v u Q I rx ry h;obtain⟨i,j,rfl,rfl,hc,q⟩:=h;obtain⟨t,rfl⟩:=rx;obtain⟨t',rfl⟩:=ry;exact rule i j t t' s _ _ hc ⟨d! (g i j),H,ia!,ch! _,q⟩
theorem ztQ{g:Int->Int->Int} (rule:∀(i j:Int) (t u:Tok) (s:Shared) (Q:Value->Shared->Prop) (E:Value->Shared->Prop),Q (bs! (g i j) ft!) {s with toks:=ft!+1}->lv! (f (bJ! i) (bs! j u)) Q E s): OpR X f (rI0 (ms! (g i j))):=by
 intro ae s O H x y v u Q I rx ry h;obtain⟨i,j,rfl,rfl,q⟩:=h;obtain⟨t,rfl⟩:=rx;obtain⟨t',rfl⟩:=ry;exact rule i j t t' s _ _ ⟨d! (g i j),H,ia!,ch! _,q⟩
theorem zqI{g:Int->eH! Int} (rule:∀(i j:Int)(t u:Tok)(s:Shared)(Q:Value->Shared->Prop)(E:Value->Shared->Prop),Q (.bool (g i j)) s->lv! (f (bJ! i) (bs! j u)) Q E s): OpR X f (rI0 λi j=>.bl (g i j)):=by
 intro ae s O H x y v u Q I rx ry h;obtain⟨i,j,rfl,rfl,q⟩:=h;obtain⟨t,rfl⟩:=rx;obtain⟨t',rfl⟩:=ry;exact rule i j t t' s _ _ (bj! (.bl (g i j)) H I q)
def zun(i j:Int):j!:=0<=j/\j<=1000000/\gV!<2 ^ 64
theorem zpg:gf! .Add (rI0 (ms! (i+j))):=ztQ (p2! (add_int q))
theorem zom:gf! .Sub (rI0 (ms! (i-j))):=ztQ (p2! (sub_int q))
theorem zox:gf! .Mod (rI (λ_ j=>0<j) (ms! (i % j))):=opI λi j _ _ _ _ _ hc q=>mod_int' (by lia) (by rw[Int.fmod_eq_emod_of_nonneg i (by lia)];exact q)
theorem zpX:gf! .Pow (rI zun (ms! (i ^ kj!))):=opI λ_ _ _ _ _ _ _ hc q=>pow_int_small hc.1 hc.2.1 hc.2.2 q
theorem unI{g:Int->Int} (rule:∀(i:Int) (t:Tok) (s:Shared) (Q:Value->Shared->Prop) (E:Value->Shared->Prop),Q (bs! (g i) ft!) {s with toks:=ft!+1}->lv! (f (bJ! i)) Q E s): UnR X f (rU λi=>d! (g i)):=by
 intro ae s O H x v Q I rx h;obtain⟨i,rfl,q⟩:=h;obtain⟨t,rfl⟩:=rx;exact rule i t s _ _ ⟨d! (g i),H,ia!,ch! _,q⟩
theorem zkT:UnR X (unaryOp .USub) (rU λi=>d! (-i)):=unI λ_ _ _ _ _ q=>neg_int q
end
section
variable {X:Cx}{a b c:Expr}{ta tb tc:TE}{pos:Pos}
theorem zoS{O:St} (I:K!)(q:Q (.bl k) H)(e:k=k'):EP X ae O Q (.bool k') s:=by
 subst e;exact bj! (.bl k) H I q
theorem zsQ:dE! .Lt (rI0 λi j=>.bl (dO! i j)):=zqI (p2! (lt_int q))
theorem zqQ:dE! .LtE (rI0 λi j=>.bl (jx! i j)):=zqI (p2! (le_int q))
theorem zrO:dE! .Gt (rI0 λi j=>.bl (dO! j i)):=zqI (p2! (gt_int q))
theorem zs9:dE! .GtE (rI0 λi j=>.bl (jx! j i)):=zqI (p2! (ge_int q))
theorem zo8:dE! .Is (hw! (y=at!/\Q (.bl (ga! x at!)) H)):=by
 intro ae s O H x y v u Q I rx ry h;obtain⟨rfl,q⟩:=h;cases ry;refine is_none_gen (zoS I q ?_);cases x<;>(obtain⟨t,rfl⟩:=rx;rfl)
theorem OpR.or(h:OpR X f r)(h':OpR X f r'):OpR X f (hw! (r x y H Q\/r' x y H Q)):=by
 intro ae s O H x y v u Q I rx ry q;rcases q with q | q;·exact h ae s O H x y v u Q I rx ry q
 ·exact h' ae s O H x y v u Q I rx ry q
theorem zlw(b:Expr) (h:jK! (op≠.In))(h2:jK! (op≠.NotIn)):pz! b=t!:=by
 have e1:(op==CmpOp.In)=t!:=by cases op<;>first | rfl | exact f6! h
 have e2:(op==CmpOp.NotIn)=t!:=by cases op<;>first | rfl | exact f6! h2
 cases b<;>simp[behindInMarks,e1,e2]
theorem zhx(ho:dE! op r)(ha:U! a ta)(hb:U! b tb)(hm:pz! b=t!):U! (.Compare a [op] [b] pos) (tOp r ta tb):=it! (wpAny_Compare1 (zsX ha hb I h λv u s2 x y H2 I2 rx ry q=>ho ae s2 O H2 x y v u Q I2 rx ry q) hm)
def zp8(t:TE):TT:=kI! O H (λx H'=>∃k,x=.bl k/\Q k H')
theorem zmn(ho:dE! op r)(ha:U! a ta)(hb:U! b tb)(hm:pz! b=t!):PT X (.Compare a [op] [b] pos) (zp8 (tOp r ta tb)):=by
 refine it! (wpAny_isTrue_Compare1 (thn (ha ae s O H _ I h) λv s1 ⟨x,H1,I1,r1,q1⟩=>thn (hb ae s1 O H1 _ I1 q1) λu s2 ⟨y,H2,I2,r2,q2⟩=> thn (ho ae s2 O H2 x y v u _ I2 r1 r2 q2) λc s3 ⟨z,H3,I3,r3,k,e,q3⟩=>?_) hm);subst e;cases r3;exact _aT ⟨H3,I3,q3⟩
def zkJ(r r':R2)(ta tb tc:TE):TE:=gt! (ta O H (hu! (tb O H1 λy H2=>r x y H2 λz H3=>∃k,z=.bl k/\ (aG! k (tc O H3 λw' H4=>r' y w' H4 Q) (Q dg! H3)))))
theorem zjH(ho:dE! op r)(cb:dE! dj r')(ha:U! a ta)(hb:U! b tb)(hc:U! c tc) (hm:autoParam (lastMarks [op,dj] [b,c]=t!) aWu):U! (.Compare a [op,dj] [b,c] pos) (zkJ r r' ta tb tc):=by
 refine it! (Compare_chain (thn (ha ae s O H _ I h) λv s1 ⟨x,H1,I1,r1,q1⟩=>chain_link (thn (hb ae s1 O H1 _ I1 q1) λu s2 ⟨y,H2,I2,r2,q2⟩=> thn (ho ae s2 O H2 x y v u _ I2 r1 r2 q2) λd s3 ⟨z,H3,I3,r3,k,e,q3⟩=>?_)) hm);subst e;cases r3;refine _aT ?_;cases k with
 | false=>exact ite_ff (bj! dg! H3 I3 q3) | true=>exact ite_tt (chain_last (thn (hc ae s3 O H3 _ I3 q3) λw' s4 ⟨z',H4,I4,r4,q4⟩=>cb ae s4 O H4 y z' u w' Q I4 r2 r4 q4))
theorem zdz:dM! aW!<2 ^ 63:=by decide
theorem zeG:gf! .Add (hw! (∃i j,x=ax! i/\y=ax! j/\i.length+j.length<=aW!/\Q (ax! (i++j)) H)):=by
 intro ae s O H x y v u Q I rx ry h;obtain⟨i,j,rfl,rfl,hz,q⟩:=h;obtain⟨t,rfl⟩:=rx;obtain⟨t',rfl⟩:=ry;exact add_str (λt' tk=>⟨ax! (i++j),H,ia!,ch! _,q⟩) hz
theorem vals1(r:j1! [x]):∃u,us=[u]/\wA x u:=by cases r with | cons r1 r2=>cases r2;exact aA! _ r1
theorem vals2(r:j1! [x,y]):∃u w',us=[u,w']/\wA x u/\wA y w':=by cases r with | cons r1 r2=> cases r2 with | cons r3 r4=>cases r4;exact gB! _ _ r1 r3
theorem zj3:lJ! X "abs" (∃i,xs=[ac!]/\Q (d! (ai! (i<0) (-i) i)) H):=by
 intro ae s O H xs us Q I r h;obtain⟨i,rfl,q⟩:=h;obtain⟨u,rfl,t,rfl⟩:=kJ!;exact call_abs_int λu tk=>⟨d! (ai! (i<0) (-i) i),H,ia!,ch! _,q⟩
theorem zgW(hc:bY!):lJ! X nq! (∃i j,xs=bO! i j/\Q (d! (ai! (j > i) j i)) H):=by
 intro ae s O H xs us Q I r h;obtain⟨i,j,rfl,q⟩:=h;obtain⟨u,w',rfl,⟨t,rfl⟩,⟨t',rfl⟩⟩:=vals2 r;refine max_two_ints g2! λh' tk k=>⟨_,H,lZ! k,?_,q⟩;by_cases hj:j > i;·rw[_h hj,_h hj];exact ch! _
 ·rw[_q hj,_q hj];exact ch! _
theorem zfN(hc:bY!):lJ! X nr! (∃i j,xs=bO! i j/\Q (d! (ai! (j<i) j i)) H):=by
 intro ae s O H xs us Q I r h;obtain⟨i,j,rfl,q⟩:=h;obtain⟨u,w',rfl,⟨t,rfl⟩,⟨t',rfl⟩⟩:=vals2 r;refine min_two_ints g2! λh' tk k=>⟨_,H,lZ! k,?_,q⟩;by_cases hj:j<i;·rw[_h hj,_h hj];exact ch! _
 ·rw[_q hj,_q hj];exact ch! _
theorem zh6:we X (aF! ee!) (λxs H Q=>(∃i,xs=[ac!]/\Q ac! H)\/∃k,xs=[.bl k]/\Q (d! (ai! k 1 0)) H):=by
 intro ae s O H xs us Q I r h;rcases h with⟨i,rfl,q⟩ | ⟨k,rfl,q⟩
 ·obtain⟨u,rfl,t,rfl⟩:=kJ!;exact call_int_int ⟨ac!,H,I,ch! _,q⟩
 ·obtain⟨u,rfl,r1⟩:=kJ!;cases r1;exact call_int_bool ⟨d! (ai! k 1 0),H,ia!,ch! _,q⟩
end
structure ztj(h:Heap)(x dx C:Addr)(mA:Str->aN!):j! where
 obj:ex! x (W.instObj C dx)
 ns:h.Ns1 dx mA
 ne:dx≠x
theorem zht{h:Heap} (n:h.Ns1 dx mA):∃od,ex! dx od/\∀name,W.lookIn iu! od=b! (mA iu!):=by
 obtain⟨o,es,ep,ho,hd,hk,_,hm⟩:=n;refine cj! ho (λname=>?_);have e:=hm iu!;unfold nsFind findBy at e;rw[<- Array.find?_toList]at e;unfold W.lookIn;rw[hd];dsimp only;split
 ·rename_i y q;rw[q]at e;exact _aK some e
 ·rename_i q;rw[q]at e
  rw[_q (by rw[(show es.toList.any (·.refKey)=t! from by
   rw[List.any_eq_false];intro y hy;obtain⟨z,t,gP⟩:=hk y (Array.mem_toList_iff.mp hy);simp[DictEntry.refKey,gP])];exact _av)];exact _aK some e
theorem ztj.look(I:ztj h x dx C mA):∃od,W.InstAt h x (W.instObj C dx) C (b! od)/\∀name,W.lookIn iu! od=b! (mA iu!):= let ⟨od,ho,hl⟩:=zht I.ns;⟨od,eS! I.obj rfl ho,hl⟩
section
variable {P:Program}{w:World}{H H':Hp}{h h':Heap}{a C dx:Addr}{fs dY:dv! V}
theorem zgN(hok:HOk P w H h)(e:cb! (.ins C dx fs)):∃mA,ztj h a dx C mA/\(∀f,ztp (fs.lookup f) (mA f))/\PySem.Within mA (fs.map (·.1))/\dm! fs.length/\H dx=b! (.own a):=by
 obtain⟨d,z,ne,ob,mA,n,r,q⟩:=((hok a _ e));exact⟨mA,aQ! ob n ne,r,q,z,d⟩
end
structure Cls(K:W.Frag)(C:Addr):j! where
 pg:W.plainGet K C Str.empty=c!
 hd:W.hasDictIn K C=c!
 po:W.plainOver K C=c!
 sa:W.findIn K aT! "__setattr__"=b! (hH! "object.__setattr__")
theorem Cls.get{K:W.Frag} (c:Cls K C)(f:Str):W.plainGet K C f=c!:=c.pg
section
variable {X:Cx}{ae:c4!}{O:St}{H:Hp}{s:Shared}{A:Around}{E:bP!}{Q:bP!}{c:Value}{b:Bool}
inductive zc3(K:W.Frag)(H:Hp):V->dG!->j! where | non:zc3 K H at! (aF! "NoneType") | bl (x:Bool):zc3 K H (.bl x) (aF! fs!) | int (i:Int):zc3 K H ac! (aF! ee!) | str (x:Str):zc3 K H bQ! (aF! fU!) | flt (x:UInt64):zc3 K H (.flt x) (aF! "float") | lst {a:Addr}{xs:aU!}(e:cb! cD!):zc3 K H ad! c1! | frz {a:Addr}{o:Obj}{xs:aU!}(e:cb! (dS! cD!)):zc3 K H ad! c1! | tup {a:Addr}{xs:aU!}(e:cb! aD!):zc3 K H ad! du! | dK {a:Addr}{ah:f3! Key V}(e:cb! gE!):zc3 K H ad! jQ! | dT {a:Addr}{ah:f3! (dZ! Key) V}(e:cb! kX!):zc3 K H ad! jQ! | ins {a C dx:Addr}{fs:dv! V}(e:cb! (.ins C dx fs))(cl:Cls K C)(ha:W.findIn K aT! oU!=b! (b! om!)) (hn:W.specialIn K om! "__get__"=b! (hH! "getset_descriptor.__get__"))(gc:W.takesIn K om!=b! c!) (hm:W.mroIn K C sv!=b! c!):zc3 K H ad! aT!
theorem zgv(I:K!) (rx:wA x u) (ty:zc3 X.K H x t) (e:mL! X.K t c=b! b) (h:∀tk,Q kN! {s with toks:=tk}): fY! aR! X.w A (pJ! gq! [u,c]) Q E s:=by cases ty with
 | non=>cases (rx);exact kR! W.kitx_none la! e (λz=>nomatch z) h | bl y=>cases (rx);exact kR! W.kitx_bool la! e (λz=>nomatch z) h | int i=>obtain⟨t,q⟩:=(rx);cases q;exact kR! W.kitx_int la! e (λz=>nomatch z) h | str y=>obtain⟨t,q⟩:=(rx);cases q;exact kR! W.kitx_str la! e (λz=>nomatch z) h | flt y=>obtain⟨t,q⟩:=(rx);cases q;exact kR! W.kitx_float la! e (λz=>nomatch z) h | @lst a xs ea=>
  cases (rx);obtain⟨_,_,n,_,h1⟩:=(gD! a ea);exact kR! W.kitx_list (b1! h1) e (λz=>nomatch z) h | @frz a ob xs ea=>
  cases (rx);obtain⟨_,_,_,n,_,h1⟩:=(gD! a ea);exact kR! W.kitx_list (b1! h1) e (λz=>nomatch z) h | @tup a xs ea=>
  cases (rx);obtain⟨_,_,_,p⟩:=(gD! a ea);obtain⟨o,h1,h2,_⟩:=p;exact kR! W.kitx_tuple (cj! h1 h2) e (λz=>nomatch z) h | @dK a ah ea=>
  cases (rx);obtain⟨_,_,vs,_,p⟩:=(gD! a ea);obtain⟨o,es,ep,h1,h2,_⟩:=p;exact kR! W.kitx_dict (cj! h1 h2.1) e (λz=>nomatch z) h | @dT a ah ea=>
  cases (rx);obtain⟨_,_,xs,_,o,es,ep,h1,h2,_⟩:=(gD! a ea);exact kR! W.kitx_dict (cj! h1 h2.1) e (λz=>nomatch z) h | @ins a C dx fs ea cl ha hn gc hm=>
  cases (rx);obtain⟨mA,Oo,_⟩:=zgN er! ea;obtain⟨od,J,_⟩:=Oo.look;exact kR! (W.kitx_own (cl.get _) cl.hd ha hn gc hm) J e (λz=>nomatch z) h
end
structure z1L(k:Nat)(A:Around):j! where
 hd:ne!
 dp:p3!+3*k+5<recursionLimit
 un:o0!+16*k+200<m1!
 gd:A.guards=b! []
theorem z1L.mono(r:hp! A)(h:j<=k):z1L j A:=⟨r.hd,by have:=r.dp;lia,by have:=r.un;lia,r.gd⟩
theorem z1L.deeper(r:z1L (k+1) A)(env:Env):hp! (A.deeper env):= ⟨r.hd,by have:=r.dp;show p3!+1+3*k+5<_;lia,by have:=r.un;show o0!+3+16*k+200<_;lia,r.gd⟩
theorem z1L.depth(r:hp! A):p3!<recursionLimit:=by have:=r.dp;lia
theorem z1L.units(r:hp! A):o0!+64<m1!:=by have:=r.un;lia
def ztJ:TA:=λ_ H Q=>Q [] H
def zrF(ta:TE)(tr:TA):TA:=gt! (ta O H (hu! (tr O H1 λxs H2=>Q (x::xs) H2)))
section
variable {X:Cx}{e:Expr}{es:aC!}{te:TE}{t:TA}{pos:Pos}
theorem z0v:PA X [] ztJ:=λ_ _ _ _ H Q I h=>_cQ ⟨[],H,I,cn!,h⟩
theorem wD(ha:U! e te)(hr:PA X es t)(hs:y! (aq! (e::es)=dF!::if!)):PA X (e::es) (zrF te t):=by
 intro pos ae s O H Q I h;rw[hs];exact _cA (thn (ha ae s O H _ I h) λu s1 ⟨x,H1,I1,r1,q1⟩=>(thn (hr pos ae s1 O H1 _ I1 q1) λus s2 ⟨xs,H2,I2,r2,q2⟩=>⟨x::xs,H2,I2,ep! r1 r2,q2⟩))
def zuA(t:TA):TE:=kI! O H (λxs H1=>v!<=aW!/\∀p,H1 p=a!->Q b9! (upd H1 p aD!))
def zua(t:TA):TE:=kI! O H (λxs H1=>v!<=aW!/\∀p,H1 p=a!->Q b9! (upd H1 p cD!))
theorem zkI(h:PA X es t):U! (hv! es x1 pos) (zuA t):=by
 refine λae s O H Q I hq=>wpAny_Tuple_spliced (thn (h pos ae s O H _ I hq) λus s1 ⟨xs,H1,I1,r,z,q⟩=>⟨by rw[<- r.length];exact z,?_⟩);exact⟨q! iv!,upd H1 iv! aD!,I1.laid (λb u e=>_g _ e) ah! ⟨z,us,r,⟨_,gN!,rfl,rfl,_,rfl⟩⟩,rfl,q _ (sz! ah!)⟩
theorem zlx(h:PA X es t):U! (.List es pos) (zua t):=by
 refine λae s O H Q I hq=>wpAny_List_spliced (thn (h pos ae s O H _ I hq) λus s1 ⟨xs,H1,I1,r,z,q⟩=>⟨by rw[<- r.length];exact z,?_⟩);exact⟨q! iv!,upd H1 iv! cD!,I1.laid (λb u e=>_g _ e) ah! ⟨z,us,0,r,gN!⟩,rfl,q _ (sz! ah!)⟩
end
abbrev Sp:=aU!->Hp->VK->XK->j!
abbrev CXT:=mu!->Hp->nF!->XK->bP!
structure zqA(P:Program)(w:World)(K:W.Frag)(mg:Str->aN!)(base:Heap)(A:Around)(outer:mu!)(s:Shared)(H:Hp):j! where
 frames:A.frames=b! an!
 mod:Mod K mg P!
 bs:bz! (base.get? b=b! o->da! b/\eN!)
 bsz:base.objs.size<=am!
 funs:s.heap.FunFrames P! an!
 frf:∀b∈mp!,eN!
 hok:HOk P w H G!
 bare:rp! s.gens
def CE(outer:mu!)(P:Program)(w:World)(H:Hp)(s:Shared)(Q:VK)(u:Value)(s':Shared):j!:= ∃v H',pW!=s.os/\q0!/\Un mp! [] H H' G! gs!/\HOk P w H' gs!/\wA v u/\Q v H'
def CR(CX:CXT)(outer:mu!)(P:Program)(w:World)(H:Hp)(s:Shared)(Q:VK)(E:XK)(r:Result)(s':Shared):j!:= match r with
 | .ok (.ret u)=>CE an! P w H s Q u s' | .ok _=>False | .error e=>CX an! H s E e s'
structure z99(P:Program)(w:World)(K:W.Frag)(mg:Str->aN!)(base:Heap)(CX:CXT)(k:Nat)(f:Addr)(fd:FuncData)(ps:al!)(sp:Sp):j! where
 len:∀vs H Q E,sp vs H Q E->mg!
 run:∀(A:Around)(outer:List Env)(s:Shared)(H:Hp)(args:Args)(us:List Value)(vs:List V)(Q:VK)(E:XK),hp! A->zqA P w K mg P! A an! s H->p4! s fd jA! lH!->j1! vs->sp vs H Q E-> kk! (model P w) A (.call (q! f) jA!) (CR CX an! P w H s Q E) s
theorem z99.mono{P:Program}{w:World}{K:W.Frag}{mg:Str->aN!}{base:Heap}{CX:CXT}{j k:Nat}{f:Addr}{fd:FuncData}{ps:al!}{sp:Sp}(F:z99 P w K mg P! CX j f fd ps sp)(h:j<=k): z99 P w K mg P! CX k f fd ps sp:=⟨F.len,λA outer s H args us vs Q E hr=>F.run A an! s H jA! us vs Q E (hr.mono h)⟩
theorem z99.imp{P:Program}{w:World}{K:W.Frag}{mg:Str->aN!}{base:Heap}{CX:CXT}{k:Nat}{f:Addr}{fd:FuncData}{ps:al!}{sp j5:Sp}(F:z99 P w K mg P! CX k f fd ps sp) (h:∀vs H Q E,j5 vs H Q E->sp vs H Q E):z99 P w K mg P! CX k f fd ps j5:= ⟨λvs H Q E q=>F.len vs H Q E (h _ _ _ _ q),λA outer s H args us vs Q E hr he hb hv hs=>F.run A an! s H jA! us vs Q E hr he hb hv (h _ _ _ _ hs)⟩
section
variable {X:Cx}{ae:c4!}{O:St}{H:Hp}{s s':Shared}
theorem Inv.env0(I:K!):zqA aR! X.w X.K e4! eP! X.A lV! s H:= ⟨I.ok.frames,I.ok.mod,I.bs,_Y I.ok.bsz I.sz,I.stack,I.stkFree,er!,iZ!⟩
theorem Inv.after(I:K!)(h:CE lV! aR! X.w H s Q u s'):EP X ae O Q u s':=by
 obtain⟨v,H',os,bare,un,hok,r,q⟩:=h;obtain⟨hh,g,d,t,mQ⟩:=s';obtain rfl:mQ=s.os:=os;exact⟨v,H',I.call un hok bare (λb z=>oP! (by simp)),r,q⟩
end
def zma(sp:Sp)(bN:aU!)(E:XK)(t:TA):TE:=kI! O H (λvs H1=>sp (vs++bN) H1 Q E)
def Binds(K:W.Frag)(fd:FuncData)(ps:al!)(ds:cR!):j!:= ∀(s:Shared)(us:List Value),K.In G!->r! (us++ds)=a5!->p4! s fd (dy! us) (ps.zip (us++ds))
theorem Binds.all{K:W.Frag}{fd:FuncData}{ps:al!}(h:∀us:List Value,mU!=a5!->p5! fd (dy! us)=dH! lH!):j6! K ps []:=λs us _ hl=>by
 rw[_aH]at hl ⊢;exact .of_eq (h us hl)
def Passes(CX:CXT)(X:Cx)(E:XK):j!:=∀(ae:List (Addr×Obj))(O:St)(H:Hp)(s:Shared)(e:Value)(s':Shared),K!->CX lV! H s E e s'->X.xe e s'
section
variable {X:Cx}{CX:CXT}{k:Nat}{f C:Addr}{fd:FuncData}{ps:al!}{sp:Sp}{bN:aU!}{ds:cR!}{E:XK}{x m:Str}{p pos ap:Pos}{e o:Expr}{es:aC!}{ta:TE}{t:TA}
theorem zeq{O:St} (F:z99 aR! X.w X.K e4! eP! CX k f fd ps sp)(hr:hp! X.A)(hb:j6! X.K ps ds)(hd:xn bN ds)(hx:kF! X E) (I:K!)(r:j1! vs)(h:sp (vs++bN) H Q E):bI! (call (q! f) us) (EP X ae O Q) s:=by
 have r2 := r.append hd;refine wpAny_call (_dt (F.run X.A lV! s H (dy! us) (us++ds) (vs++bN) Q E hr I.env0 (hb s us i1! (by rw[<- r2.length];exact F.len _ _ _ _ h)) r2 h) λr s' hq=>?_);cases r with
 | error e=>exact hx ae O H s e s' I hq | ok fl=> cases fl with
  | ret u=>exact I.after hq | next=>exact q2! | brk=>exact q2! | cont=>exact q2!
theorem zmc(F:z99 aR! X.w X.K e4! eP! CX k f fd ps sp) (hr:hp! X.A) (hg:eL!) (hm:X.mg x=a3! f) (hk:oD! X.K f=c!) (hb:j6! X.K ps ds) (hd:xn bN ds) (hx:kF! X E) (ha:PA X (e::es) t) (aG:b8! (x==cz!)) (he:y! (aq! (e::es)=dF!::if!)) (au:dU! es (·.1)): U! (c9! x p (e::es)) (zma sp bN E t):=by
 intro ae s O H Q I h;refine _aq (z3u I hg hm (_du I.ok.mod.kin hk (thn (ha pos ae s O H _ I h) λus s1 ⟨vs,H1,I1,r,q⟩=>as! I1.kIn ?_) he au) aG);exact zeq F hr hb hd hx I1 r q
theorem zit(F:z99 aR! X.w X.K e4! eP! CX k f fd ps sp)(hr:hp! X.A)(hg:eL!)(hm:X.mg x=a3! f)(hk:oD! X.K f=c!)(hb:j6! X.K ps ds)(hd:xn bN ds)(hx:kF! X E) (aG:b8! (x==cz!)):U! (c9! x p []) (zma sp bN E ztJ):=by exact it! (_aq (z3u I hg hm (W.callWith_K0 i1! hk (zeq F hr hb hd hx I cn! h)) aG))
end
structure zr(N P:al!)(sc:Scope):j! where
 kind:sc.kind=rV!
 co:sc.isCoroutine=t!
 gen:sc.isGenerator=t!
 nd:N.Nodup
 pre:N.take P.length=P
 par:∀x∈P,op!=b! oW!\/op!=dk!
 nofree:∀y∈sc.names,y.2≠bK!
theorem zb7{kindOf:Str->bh! lb!} : ∀{binds:List (Str×Value)}{m:Str->Option Value},(∀v,(x,v)∉binds)->bindL p6! binds m x=m x
 | [],_,_=>rfl | (n,v)::r,m,h=>by
  unfold bindL;rw[zb7 λw hw=>h w (_H _ hw)];split;·simp[(show x≠n from by rintro rfl;exact h v _ak)]
  ·rfl
theorem zbU{kindOf:Str->bh! lb!} : ∀{binds:List (Str×Value)}{m:Str->Option Value},(∀v,(x,v)∉binds)->bindC p6! binds m x=m x
 | [],_,_=>rfl | (n,v)::r,m,h=>by
  unfold bindC;rw[zbU λw hw=>h w (_H _ hw)];split;·rfl
  ·simp[(show x≠n from by rintro rfl;exact h v _ak)]
theorem zav{kindOf:Str->bh! lb!} : ∀{P:List Str}{vs:List Value}{i:Nat}{m:Str->Option Value},P.Nodup->aj! P x->aj! vs v->kindOf x=b! oW!-> bindL p6! (P.zip vs) m x=bx!
 | [],_,_,_,_,h,_,_=>by cases h | _::_,[],_,_,_,_,h,_=>by cases h | p::P,w::vs,0,m,nd,h1,h2,hk=>by
  simp at h1 h2;subst h1;subst h2;show bindL p6! ((p,w)::P.zip vs) m p=_;unfold bindL;rw[zb7 (lc! ((_ck.mp nd).1 (_ad hv).1)),_h hk];simp | p::P,w::vs,i+1,m,nd,h1,h2,hk=>by
  unfold bindL;exact zav (_ck.mp nd).2 (by exact h1) (by exact h2) hk
theorem zbN{kindOf:Str->bh! lb!} : ∀{P:List Str}{vs:List Value}{i:Nat}{m:Str->Option Value},P.Nodup->aj! P x->aj! vs v->kindOf x≠b! oW!-> bindC p6! (P.zip vs) m x=bx!
 | [],_,_,_,_,h,_,_=>by cases h | _::_,[],_,_,_,_,h,_=>by cases h | p::P,w::vs,0,m,nd,h1,h2,hk=>by
  simp at h1 h2;subst h1;subst h2;show bindC p6! ((p,w)::P.zip vs) m p=_;unfold bindC;rw[zbU (lc! ((_ck.mp nd).1 (_ad hv).1)),_q hk];simp | p::P,w::vs,i+1,m,nd,h1,h2,hk=>by
  unfold bindC;exact zbN (_ck.mp nd).2 (by exact h1) (by exact h2) hk
noncomputable def start(N:al!)(vs:aU!):St:=vs.map some++gW! (N.length-dq!) a!
noncomputable def z4E(CX:CXT)(P:Program)(w:World)(K:W.Frag)(mg:Str->aN!)(base:Heap)(N:al!)(qual:Str)(scope:Scope)(f:Addr)(cd:Value)(A:Around)(outer:mu!)(s:Shared)(H:Hp)(E:XK):Cx where
 prog:=P;w:=w;K:=K;mg:=mg;base:=base;A:=jV! ao! bt! f cd;N:=N;s₀:=s;H₀:=H;env:=pu! ao! bt! f cd;outer:=outer;stack:=pu! ao! bt! f cd::an!;ex:=[];calm:=A.handled.isNone;fn:=λ_=>c!;pn:=[];xe:=λe s'=>fY! P w (jV! ao! bt! f cd) (leaving (pu! ao! bt! f cd) e) (λ_ eR=>CX an! H s E e eR) (λe' eR=>CX an! H s E e' eR) s'
theorem z53{sc:Scope} (h:op!=dk!):∃c,jn! (rZ! n sc.names []) x c:=Option.isSome_iff_exists.mp (_dc sc.names n [] (w! h))
theorem zb1{K:W.Frag} (S:zr N ps bt!)(e0:zqA P w K mg P! A an! s H)(hl:mg!)(r:j1! vs) (x:InCallC s am! (bindL (pu! ao! bt! f cd).kindOf lH! λ_=>a!) (ma! dD! []) (bindC (pu! ao! bt! f cd).kindOf lH! λ_=>a!) s1): Inv (z4E CX P w K mg P! N ao! bt! f cd A an! s H E) [] (oR! N) H s1:=by
 have au:a5!<=N.length:=by have:=_aK List.length S.pre;rw[_b5]at this;lia
 obtain⟨h1,tk,rfl,hk⟩:=x.done;have eS:∀b:Addr,b∉(z4E CX P w K mg P! N ao! bt! f cd A an! s H E).ex:=λb z=>cN! (show b∈([]) from z) (by simp);refine⟨⟨e0.mod,S.kind,rfl,rfl,ah!,λy z c h1 h2=>(name_of_addr x.apart (_ao h1) (_ao h2)),cO! ?_,λy c _ h=>(_bz (x.above y c (_ao h))),λh=>Option.isNone_iff_eq_none.mp h,Around.frames_deeper e0.frames,d8! rfl rfl,λb z=>oP! (eS b),e0.bs,e0.bsz,λb _ _=>eS b,λb z=>oP! (eS b),e0.funs,e0.frf⟩, rfl,e0.bare,Un.kept hk,bG! x.toInCall.ns (λi y v h1 h2 h3=>?_),λy c h=>gc! (x.cell y c h),e0.hok.fresh ah!,λy c h=>(e0.hok.fresh (_bz (x.above y c (_ao h)))),bo! (cN! (show p∈([]) from hp) (by simp)),e0.hok.kept hk,?_⟩
 ·rcases hy with hy | hy;·exact z53 hy
  ·exact f6! (S.nofree _ (_ao hy))
 ·have hi:i<dq!:=by
   unfold start at h2;by_cases hi:i<dq!;·exact hi
   ·rw[_bu (by simpa using hi)]at h2;rw[_bc]at h2;split at h2<;>cases h2
  obtain⟨u,hu,rv⟩:=r.get (by
   unfold start at h2;rw[_G (by simpa using hi),_z]at h2;cases e:vs[i]? with
   | none=>rw[e]at h2;cases h2 | some a=>rw[e]at h2;cases h2;rfl);have hp:aj! ps y:=by rw[<- S.pre,_al (by lia)];exact h1
  have j6:ps.Nodup:=by rw[<- S.pre];exact S.nd.sublist (_cR _ _)
  refine aQ! u rv ?_;rcases S.par y (_u hp) with k | k;·exact w! ⟨k,zav j6 hp hu k⟩
  ·obtain⟨c,e⟩:=z53 k;refine R! ⟨w! k,c,e,?_⟩;have q:=x.cell y c e;rw[zbN j6 hp hu (by show jB! y≠_;rw[k];decide)]at q;exact q
 ·unfold start;show _=N.length;rw[_aZ,_W,List.length_replicate];lia
theorem zod{K:W.Frag} {dV kV aE pm aj ct oc:Value} (lk:mJ! f=b! ⟨oc,od,.func (W.fnOf iu! ao! params dI! bt! dV kV aE pm an aj ct),cF⟩)(bA:W.codeIn K aj ao!=c!)(S:zr N ps bt!) (len:∀vs H Q E,sp vs H Q E->mg!) (bf:∀(A:Around)(outer:List Env)(s:Shared)(H:Hp)(vs:List V)(Q:VK)(E:XK),hp! (jV! ao! bt! f aj)->sp vs H Q E-> ∃t,PSs (z4E CX P w K mg P! N ao! bt! f aj A an! s H E) dI! t/\t {nx:=λ_ H'=>Q at! H',rt:=Q} (oR! N) H): z99 P w K mg P! CX (k+1) f (W.fnOf iu! ao! params dI! bt! dV kV aE pm an aj ct) ps sp:=by
 refine⟨len,λA outer s H args us vs Q E hr e0 hb r cG=>?_⟩;have KX := e0.mod.kin.keeps (gr! (e0.bs b o e).1);refine codeAny_call_function hr.depth (KX _ _ lk) rfl S.co S.gen rfl (W.codeRec_of KX bA) (hb _ _ _ _ (wpAny_newFunctionEnv_cells S.kind (λ⟨n,v⟩ hy=>by
  rcases S.par n (_ad hy).1 with q | q;·exact w! q
  ·exact d8! q (_dc _ _ _ (w! q))) λenv he s1 x=>?_));subst he;refine⟨(e0.mod.nolimit.keeps (gr! (e0.bs b o e).1)).keeps x.toInCall.keep,codeAny_func ?_⟩;obtain⟨t,ht,hq⟩:=bf A an! s H vs Q E (hr.deeper _) cG;refine _Z (ht [] s1 (oR! N) H _ (zb1 S e0 (len _ _ _ _ cG) r x) hq) (λfl s' hs=>?_) λe s' hs=>hs;have fin:∀{O':St}{H':Hp}{v:V}{u:Value},Inv (z4E CX P w K mg P! N ao! bt! f aj A an! s H E) [] O' H' s'->wA v u->Q v H'->CE an! P w H s Q u s':= λ{O' H' v u} J rv q=>⟨v,H',J.os,J.bare,J.base,J.hok,rv,q⟩;cases fl with
 | ret u=>
  obtain⟨v,O',H',J,rv,q⟩:=hs;exact fin J rv q | next=>
  obtain⟨O',H',J,q⟩:=hs;exact fin (v:=V.non) J rfl q | brk=>
  obtain⟨_,_,_,q⟩:=hs;exact lY! q | cont=>
  obtain⟨_,_,_,q⟩:=hs;exact lY! q
section
variable {X:Cx}{x:Str}{p pos:Pos}{e:Expr}{es:aC!}{t:TA}{id T:String}{r:aU!->Hp->ej!}
def tCB(r:aU!->Hp->ej!)(t:TA):TE:=kI! O H (λvs H1=>r vs H1 Q)
theorem z2F(hc:je! X id r) (hg:eL!) (hm:dx! x) (hv:k4! x=hH! id) (ha:PA X (e::es) t) (hn:jK! (lB! x)) (aG:b8! (x==cz!)) (he:y! (aq! (e::es)=dF!::if!)) (au:dU! es (·.1)):U! (c9! x p (e::es)) (tCB r t):=by
 intro ae s O H Q I h;exact _aq (z1t I hg hm hv (PyProof.Rows.callWith_builtin1 (thn (ha pos ae s O H _ I h) λus s1 ⟨vs,H1,I1,r1,q1⟩=>hc ae s1 O H1 vs us Q I1 r1 q1) he au) hn aG)
theorem zhz(hc:we X j4! r) (hg:eL!) (hm:dx! x) (hv:kz! x j4!) (ha:PA X (e::es) t) (hn:jK! (lB! x)) (aG:b8! (x==cz!)) (he:y! (aq! (e::es)=dF!::if!)) (au:dU! es (·.1)):U! (c9! x p (e::es)) (tCB r t):=by
 intro ae s O H Q I h;exact _aq (z1t I hg hm hv (_aa (thn (ha pos ae s O H _ I h) λus s1 ⟨vs,H1,I1,r1,q1⟩=>hc ae s1 O H1 vs us Q I1 r1 q1) he au) hn aG)
end
end L2
namespace HT
section
variable {prog:Program}{w:World}{A:Around}{E:bP!}{s:Shared}
theorem zn5(ht:IsTup G! t es!) (hb:IsTup G! b ws.toArray) (hv:a4! vs) (h1:ws=[]->Q (q! t) s) (h2:a4! ws->Q fy! {s with heap:=hW! ({cls:=du!,data:=oE! (vs++ws)})}) (bg:dq!+ws.length<=aW!):ct! w A (binaryOp .Add (q! t) (q! b)) Q E s:=by
 obtain⟨⟨cls,dd,data,sl⟩,ho,hc,n,hd⟩:=id ht;obtain⟨⟨gQ,ge,data2,cH⟩,dI,gR,n2,eT⟩:=id hb;subst hc hd gR eT;have e:es!++ws.toArray=m0! (vs++ws):=by simp
 by_cases hw:ws=[]
 ·exact concat_meets (b1! ho) (b1! dI) _dd seq_tuple_add _bU _bQ (_bI _ _) (tuple_addW1 t b es! ws.toArray n n2 dd ge sl cH (by simpa using hv) (by simp[hw])) ⟨ho,dI,h1 hw⟩
 ·refine concat_meets (b1! ho) (b1! dI) _dd seq_tuple_add _bU _bQ (_bI _ _) (tuple_addW2 t b es! ws.toArray n n2 dd ge sl cH (by simpa using hv) (by simpa using hw) (bg)) ⟨ho,dI,?_⟩;rw[e];exact h2 hw
noncomputable def sIx(n d:Nat):df!->Nat
 | none=>d | some v=>ai! (v<0) (eQ! (v+h! n)) (min v.toNat n)
theorem zdu(n d:Nat):sIx n d a!=d:=rfl
theorem zgF(n d k:Nat):sIx n d (b! (h! k))=min k n:=by
 show (ai! (k<0) (eQ! (h! k+n)) (min (h! k).toNat n))=min k n;rw[_q (by lia),_T]
theorem ztP(n d:Nat)(hd:d<=n)(o:df!):sIx n d o<=n:=by cases o with
 | none=>exact hd | some v=>
  show (ai! (v<0) (eQ! (v+n)) (min v.toNat n))<=n;by_cases hv:v<0;·rw[_h hv];lia
  ·rw[_q hv];exact Nat.min_le_right _ _
theorem zfT(v:Int)(n d:Nat):(ai! (v<0) (max (v+h! n) 0) (min v (h! n)))=Z! (sIx n d bx!):=by
 show (ai! (v<0) (max (v+n) 0) (min v n))=((ai! (v<0) (eQ! (v+n)) (min v.toNat n)):Nat);by_cases hv:v<0;·simp only[_h hv];lia
 ·simp only[_q hv];lia
theorem zeH(lo hi:df!)(n:Nat):Builtin.Slice.sliceAdjust lo hi 1 (h! n)=(Z! (sIx n 0 lo),h! (sIx n n hi)):=by
 refine Prod.ext ?_ ?_;·cases lo with
  | none=>rfl | some v=>exact zfT v n 0
 ·cases hi with
  | none=>rfl | some v=>exact zfT v n n
theorem zf3(i j:Nat):p7! (h! i) (h! j) 1=j-i:=by
 unfold Builtin.Slice.slicePlaces;split<;>lia
theorem z8t(p:nQ! v o)(h:Q o s):ct! w A (Builtin.Slice.slicePartIndex v) Q E s:=by cases p with
 | none=>exact _cC h | int i t=>exact slicePart_int h
theorem kS{sl:Addr}{vl vu:Value}{lo hi:df!}{n:Nat}{Q:Int×Int×Nat->eh!}(hs:rI! vl vu X!)(pl:nQ! vl lo)(pu:nQ! vu hi) (h:Q (Z! (sIx n 0 lo),1,sIx n n hi-sIx n 0 lo) s):ct! w A (Builtin.Slice.sliceApplied (q! sl) (dH! (h! n))) Q E s:=by
 obtain⟨os,ce,cW,cS⟩:=id hs;refine _a (_a (pI! ce cS (_a (pI! ce cS (_a (pI! ce cS (_m (_a (_cC (_a (z8t pl (_a (z8t pu (_a (_m ?_)))))))))))))));show fk! _ _ (match Builtin.Slice.sliceAdjust lo hi 1 n with | (lo,hi)=>dH! (lo,h! 1,p7! lo hi 1)) _ _;rw[zeH lo hi n];show fk! _ _ (dH! (h! (sIx n 0 lo),1,p7! (sIx n 0 lo) (sIx n n hi) 1)) _ _;rw[zf3];exact _m h
theorem zjA(xs:cq!)(i k:Nat):m0! (rG! k (λ(m:Nat)=>xs[(h! i+h! m*1).toNat]?))=m0! ((xs.toList.drop i).take k):=by
 have e:(λ(m:Nat)=>xs[(i+h! m*1).toNat]?)=λm=>xs[i+m]? := by
  funext m;rw[(show eQ! (h! i+m*1)=i+m from by lia)]
 rw[e];have:=pick_run xs i k;rw[List.filterMap_map]at this;have e2:((λx=>xs[x]?) ∘ λx=>i+x)=λm=>xs[i+m]? := rfl;rw[e2]at this;rw[this]
theorem z3a{lo hi:df!} (ht:IsTup G! t gU!) (hs:rI! vl vu X!) (pl:nQ! vl lo) (pu:nQ! vu hi) (hw:¬ (ly! 0 lo=0/\ly! hx! hi=hx!)) (h:Q fy! {s with heap:=hW! ({cls:=du!,data:=oE! ((items.toList.drop (ly! 0 lo)).take (ly! hx! hi-ly! 0 lo))})}) (bg:hx!<=aW!):ct! w A (getItem (q! t) (q! sl)) Q E s:=by
 obtain⟨os,ce,cW,cS⟩:=id hs;unfold getItem;try with_reducible refine _aR ?_
 refine _a (_cS le! (by decide) (_a (_ae le! _O (_at _O le! _co ?_ (_cD _ _)))));show fk! _ _ (Builtin.Tuple.tupleItemsOf (q! t) >>= _) _ _;refine _a (tupleItemsOf_ ht ?_);refine _a (_dv ⟨os,ce,cW⟩ (_a (kS hs pl pu ?_)));show fk! _ _ (aG! (h! (ly! 0 lo)==0&&1==1&&(ly! hx! hi-ly! 0 lo)==hx!) _ _) _ _;rw[_q (by
  intro q;rw[_Q,_Q]at q;have q1 := eq_of_beq q.1.1;have q2 := eq_of_beq q.2;exact hw ⟨by lia,by lia⟩),zjA];exact _a (_aE (_m (aA! _ (_m h))) (by
  show ((items.toList.drop (ly! 0 lo)).take (ly! hx! hi-ly! 0 lo)).toArray.size<=aW!;rw[_s,_b5,_aO,_aW];lia))
end
end HT
namespace L2
abbrev TO:=St->Hp->(df!->ck!)->j!
def PO(X:Cx)(e:rQ!)(t:TO):j!:= ∀(ae:List (Addr×Obj))(s:Shared)(O:St)(H:Hp)(Q:Option Int->Hp->Prop),K!->t O H Q-> bI! (evalPart e aX!) (λu s'=>∃o H',cB! H' s'/\nQ! u o/\Q o H') s
def znx:TO:=λ_ H Q=>Q a! H
def zrw(t:TE):TO:=kI! O H (hu! (∃i,x=ac!/\Q ig! H1))
section
variable {X:Cx}{e:Expr}{te:TE}{lo hi:rQ!}{tl th:TO}{pos p2:Pos}
theorem zgy:PO X a! znx:=by exact it! (_m ⟨a!,H,I,X!,h⟩)
theorem zn4(h:U! e te):PO X A! (zrw te):=by
 refine λae s O H Q I hw=>thn (h ae s O H _ I hw) λu s1 ⟨x,H1,I1,r1,q1⟩=>?_;obtain⟨i,rfl,q⟩:=q1;obtain⟨t,rfl⟩:=r1;exact⟨ig!,H1,I1,bJ! i,q⟩
def SlR(X:Cx)(r:V->df!->df!->Hp->ej!):j!:= ∀(ae:List (Addr×Obj))(s:Shared)(O:St)(H:Hp)(x:V)(v vl vu:Value)(lo hi:Option Int)(sl:Addr)(Q:VK),K!->wA x v->rI! vl vu X!->nQ! vl lo->nQ! vu hi->r x lo hi H Q-> ∃T id,typeLookup j4! "__getitem__"=dH! (hH! id)/\o1! v T/\bI! (getItem v (q! sl)) (EP X ae O Q) s
theorem SlR.or(h:SlR X r)(h':SlR X r'):SlR X (p8! (r x lo hi H Q\/r' x lo hi H Q)):=by
 intro ae s O H x v vl vu lo hi sl Q I rx hs pl pu q;rcases q with q | q;·exact h ae s O H x v vl vu lo hi sl Q I rx hs pl pu q
 ·exact h' ae s O H x v vl vu lo hi sl Q I rx hs pl pu q
def tSl(r:V->df!->df!->Hp->ej!)(te:TE)(tl th:TO):TE:=gt! (te O H (hu! (tl O H1 λl H2=>th O H2 λu H3=>r x l u H3 Q)))
theorem zdK(hr:SlR X r)(he:U! e te)(hl:PO X lo tl)(hu:PO X hi th):U! (mi! e (.Slice lo hi a! p2)) (tSl r te tl th):=by
 intro ae s O H Q I h;refine Subscript_ (thn (he ae s O H _ I h) λv s1 ⟨x,H1,I1,r1,q1⟩=>(wpAny_Slice (thn (hl ae s1 O H1 _ I1 q1) λvl s2 ⟨l,H2,I2,pl,q2⟩=>thn (hu ae s2 O H2 _ I2 q2) λvu s3 ⟨u,H3,I3,pu,q3⟩=>(_m ?_))));have I4:cB! H3 ({s3 with heap:=s3.heap.push {cls:=aF! "slice",data:=eq! #[vl,vu,X!]}}):=I3.kept λb ob q=>_g _ q;obtain⟨T,id,hT,ht,hg⟩:=hr ae {s3 with heap:=s3.heap.push {cls:=aF! "slice",data:=eq! #[vl,vu,X!]}} O H3 x v vl vu l u s3.heap.objs.size Q I4 r1 (Heap.IsSliceOf.new ..) pl pu q3;exact tail_any ht hT hg (by with_unfolding_all rfl)
noncomputable def znW(xs:aU!)(lo hi:df!):aU!:=(k3! (hZ! 0 lo)).take (hZ! v! hi-hZ! 0 lo)
theorem z5E(xs:aU!)(lo hi:df!):r! (znW xs lo hi)<=v!:=by
 unfold znW;rw[_b5,_aO];lia
def zuO(K:W.Frag):V->df!->df!->Hp->ej!:=p8! (∃a xs,x=ad!/\en! K a xs/\ ¬ (hZ! 0 lo=0/\hZ! v! hi=v!)/\∀p,gl!->Q b9! (fo! (p! (znW xs lo hi))))
theorem zoY:SlR X (zuO X.K):=by
 intro ae s O H x v vl vu lo hi sl Q I rx hs pl pu h;obtain⟨a,xs,rfl,hx,hw,q⟩:=h;cases rx;obtain⟨af,r,ht,hz⟩:=k8! hx;have ao:iw!=v!:=r.length.symm;refine⟨dd!,_,_O.lookup,le!,(HT.z3a ht hs pl pu (by rw[ao];exact hw) ?_ (by rw[ao];exact hz))⟩;rw[ao];refine bj! fy! _ (I.laid (λb ob q=>_g _ q) ah! ?_) (q _ (mc! _));exact⟨_Y (z5E xs lo hi) hz,_,(nS! (hZ! 0 lo)).take (hZ! v! hi-hZ! 0 lo),zfp.new _ _⟩
def zry(K:W.Frag):R2:=hw! (∃a b xs ys,x=ad!/\y=q! b/\en! K a xs/\en! K b ys/\a4! xs/\v!+dr!<=aW!/\ (ys=[]->Q ad! H)/\(a4! ys->∀p,gl!->Q b9! (fo! (p! (xs++ys)))))
theorem xn.nil_iff(r:iN!):us=[] ↔ xs=[]:=by cases r with
 | nil=>decide | cons _ _=>simp
theorem zmm:gf! .Add (zry X.K):=by
 intro ae s O H x y v u Q I rx ry h;obtain⟨a,b,xs,ys,rfl,rfl,ha,hb,hx,hz,q1,q2⟩:=h;cases rx;cases ry;obtain⟨af,r1,p1,_⟩:=k8! ha;obtain⟨cX,r2,p2,_⟩:=k8! hb;refine HT.zn5 p1 p2 (λz=>hx (r1.nil_iff.mp z)) (λz=>bj! ad! H I (q1 (r2.nil_iff.mp z))) (λz=>bj! fy! _ (I.laid (λb ob q=>_g _ q) ah! ?_) (q2 (λw=>z (r2.nil_iff.mpr w)) _ (mc! _))) (by rw[<- r1.length,<- r2.length];exact hz);exact⟨by rw[_aZ];exact hz,_,r1.append r2,zfp.new _ _⟩
end
noncomputable def ixN(n:Nat)(i:Int):bh! Nat:=ai! (0<=i) (h1! (i<n) (b! i2!)) (h1! (-(h! n)<=i) (b! (i+n).toNat))
noncomputable def atI{α:cd!}(xs:eV!)(i:Int):bh! α:=z! (kA! i) (λj=>xs[j]?)
theorem zgk(h:ixN n i=b! j):seqIndex? i n=b! j/\j<n/\-(h! n)<=i/\i<n:=by
 unfold ixN at h;by_cases h0:0<=i
 ·rw[_h h0]at h;by_cases h1:i<n
  ·rw[_h h1]at h;have e := _I h;exact⟨by rw[seqIndex_of h0 h1,e],by lia,by lia,h1⟩
  ·rw[_q h1]at h;cases h
 ·rw[_q h0]at h;by_cases h1:-n<=i
  ·rw[_h h1]at h;have e := _I h;exact⟨by rw[seqIndex_neg (by lia) h1,e],by lia,h1,by lia⟩
  ·rw[_q h1]at h;cases h
theorem zg0{v:α}(h:atI xs i=bx!):∃j,seqIndex? i v!=b! j/\E! xs j v/\j<v!/\-(h! v!)<=i/\i<v!:=by
 unfold atI at h;cases e:kA! i with
 | none=>rw[e]at h;cases h | some j=>
  rw[e]at h;obtain⟨h1,h2,h3,h4⟩:=zgk e;exact⟨j,h1,h,h2,h3,h4⟩
def zcL(b:Expr):j!:=∀o i,subscripted b t! o i=operate [o,i] (getItem o i)
def IxR(X:Cx)(r:R2):j!:= ∀(bi slice:Expr)(ae:List (Addr×Obj))(s:Shared)(O:St)(H:Hp)(x y:V)(v u:Value)(Q:VK),K!->wA x v->wA y u->r x y H Q-> subscripted slice t! v u=operate [v,u] (getItem v u)->bI! (subscriptTail bi slice v u) (EP X ae O Q) s
def MtR(X:Cx) (id:String) (r:V->aU!->Hp->ej!):j!:= ∀(ae:List (Addr×Obj)) (s:Shared) (O:St) (H:Hp) (x:V) (xs:List V) (v:Value) (us:List Value) (Q:VK),K!->wA x v->iN!->r x xs H Q-> bI! (pJ! id (v::us)) (EP X ae O Q) s
section
variable {X:Cx}{a b:Expr}{ta tb:TE}{pos:Pos}
theorem IxR.or(h:IxR X r)(h':IxR X r'):IxR X (hw! (r x y H Q\/r' x y H Q)):=by
 intro bi slice ae s O H x y v u Q I rx ry q hs;rcases q with q | q;·exact h bi slice ae s O H x y v u Q I rx ry q hs
 ·exact h' bi slice ae s O H x y v u Q I rx ry q hs
theorem zp4(hr:IxR X r)(ha:U! a ta)(hb:U! b tb)(hs:zcL b):U! (mi! a b) (tOp r ta tb):=it! (Subscript_ (zsX ha hb I h λv u s2 x y H2 I2 rx ry q=>hr a b ae s2 O H2 x y v u Q I2 rx ry q (hs _ _)))
def zuL(K:W.Frag):R2:=hw! (∃p xs i v,x=b9!/\y=ac!/\SqL K H p xs/\atI xs i=bx!/\Q v H)
def zu7(K:W.Frag):R2:=hw! (∃p xs i v,x=b9!/\y=ac!/\en! K p xs/\atI xs i=bx!/\Q v H)
theorem zmw:IxR X (zuL X.K):=by
 intro bi slice ae s O H x y v u Q I rx ry h hs;obtain⟨p,xs,i,z,rfl,rfl,hq,he,q⟩:=h;cases rx;obtain⟨t,rfl⟩:=ry;obtain⟨af,r,pl,hz⟩:=lG!;obtain⟨j,h1,h2,h3,h4,h5⟩:=zg0 he;obtain⟨w,ew,eN⟩:=r.get h2;have hl:=r.length;have hn:=zdz;have fin:EP X ae O Q w s:=⟨z,H,I,eN,q⟩;by_cases h0:0<=i
 ·have hj:i2!=j:=by
   rw[seqIndex_of h0 h5]at h1;exact _I h1
  exact item_listR p9! h0 (by lia) (by rw[hj];simpa using ew) fin hs
 ·have hj:eQ! (i+h! iw!)=j:=by
   rw[seqIndex_neg (by lia) h4]at h1;rw[_s,<- hl];exact _I h1
  exact _bV pl.isList.typeIs slot_list_getitem.lookup (wpAny_getItem_list_neg p9! (by lia) (by rw[_s]<;>lia) (by lia) (by rw[hj];simpa using ew) (f5! fin)) hs
theorem zpv:IxR X (zu7 X.K):=by
 intro bi slice ae s O H x y v u Q I rx ry h hs;obtain⟨p,xs,i,z,rfl,rfl,hq,he,q⟩:=h;cases rx;obtain⟨t,rfl⟩:=ry;obtain⟨af,r,pl,hz⟩:=nf!;obtain⟨j,h1,h2,h3,h4,h5⟩:=zg0 he;obtain⟨w,ew,eN⟩:=r.get h2;have hn:=zdz;exact _bV pl.typeIs slot_tuple_getitem.lookup (getItem_tuple pl (by lia) (by lia) (by rw[_s,<- r.length];exact h1) (by simpa using ew) (f5! ⟨z,H,I,eN,q⟩)) hs
theorem zeD(af:cR!) (n j:Nat) (u:Value):Obj.mapSeq (·.setIfInBounds j u) {cls:=c1!,data:=ot! n}={cls:=c1!,data:=.seq (m0! (af.set j u)) n}:=by simp[Obj.mapSeq]
theorem Inv.lst{ae:c4!}{O:St}{H:Hp}{s:Shared}{p:Addr}{xs:aU!}(I:K!)(h:H p=L! xs): ∃(af:List Value)(n:Nat),hr! xs/\fx! p ({cls:=c1!,data:=ot! n})/\v!<=aW!:=by
 obtain⟨z,af,n,r,e⟩:=gD! p h;exact⟨af,n,r,e,z⟩
theorem Inv.lstUpd{O:St} {af aP:cR!} (I:K!) (h:H p=L! xs) (ho:fx! p ({cls:=c1!,data:=ot! n})) (hf:f {cls:=c1!,data:=ot! n}={cls:=c1!,data:=.seq aP.toArray n'}) (r:xn ys aP) (hz:ov!) (t:Nat): cB! (fo! ib!) ({s with heap:=sD! p f,toks:=t}):=by
 have e:eK! (sD! p f) p ({cls:=c1!,data:=.seq aP.toArray n'}):=by rw[Heap.get?_update_self f ho (by rw[hf]<;>rfl),hf]
 exact I.write (by rw[h];trivial) cT! (λb u hb q=>bL! (Heap.get?_update_other _ _ (_bM hb)) q) (di! _) ⟨hz,aP,n',r,e⟩
def zrc:V->V->V->Hp->ck!->j!:=λo i v H Q=>∃p xs k j,o=b9!/\i=d! k/\H p=L! xs/\kA! k=b! j/\Q (fo! (ab! (ip! j v)))
theorem set_list:ztW X zrc:=by
 intro ae s O H o i v ov iv u Q I ro ri rv h;obtain⟨p,xs,k,j,rfl,rfl,hp,hj,q⟩:=h;cases ro;obtain⟨t,rfl⟩:=ri;obtain⟨af,n,r,ho,hz⟩:=I.lst hp;obtain⟨h1,h2,h3,h4⟩:=zgk hj;have hl:=r.length;have hn:=zdz;have I' := I.lstUpd hp ho (zeD af n j u) (r.set rv j) (by rw[List.length_set];exact hz) ft!;by_cases h0:0<=k
 ·have hk:dJ!=j:=by
   rw[seqIndex_of h0 h4]at h1;exact _I h1
  exact W.ki_setAt ho h0 (by lia) (by rw[_s,<- hl];exact h4) (by rw[hk];exact bG! I' q)
 ·have hk:eQ! (k+iw!)=j:=by
   rw[seqIndex_neg (by lia) h3]at h1;rw[_s,<- hl];exact _I h1
  exact W.ki_setBack ho (by lia) (by rw[_s,<- hl];exact h3) (by lia) (by rw[hk];exact bG! I' q)
theorem zbb(lo hi:df!)(n:Nat):(sliceBounds lo hi a! n).1=Z! (nR! n 0 lo)/\(sliceBounds lo hi a! n).2.1=h! (nR! n n hi)/\(sliceBounds lo hi a! n).2.2=1:=by
 refine aQ! ?_ ?_ rfl;·cases lo with
  | none=>rfl | some i=>
   simp only[sliceBounds,HT.sIx,_de,_x];by_cases h:i<0;·simp only[h,_x]<;>lia
   ·simp only[h,_a0]<;>lia
 ·cases hi with
  | none=>rfl | some i=>
   simp only[sliceBounds,HT.sIx,_de,_x];by_cases h:i<0;·simp only[h,_x]<;>lia
   ·simp only[h,_a0]<;>lia
theorem z8X(af:cR!)(lo hi:df!):slicePick e2! lo hi a!=m0! ((af.drop (nR! jC! 0 lo)).take (nR! jC! jC! hi-nR! jC! 0 lo)):=by
 obtain⟨h1,h2,h3⟩:=zbb lo hi iw!;unfold slicePick;rw[h1,h2,h3];simp only[sliceRange_one,pick_run,_s]<;>rfl
def zus(K:W.Frag):V->df!->df!->Hp->ej!:=p8! (∃a xs,x=ad!/\SqL K H a xs/\∀p,gl!->Q b9! (fo! (ab! (znW xs lo hi))))
theorem zlU:SlR X (zus X.K):=by
 intro ae s O H x v vl vu lo hi sl Q I rx hs pl pu h;obtain⟨a,xs,rfl,hx,q⟩:=h;cases rx;obtain⟨af,r,ht,hz⟩:=I.list hx;have ao:=r.length;refine⟨d0!,_,slot_list_getitem.lookup,ht.isList.typeIs,(wpAny_getItem_list_slice ht.isList hs pl pu X! (by decide) ?_ (by rw[_s]<;>lia))⟩;rw[z8X,<- ao];refine bj! fy! _ (I.laid (λb ob q=>_g _ q) ah! ?_) (q _ (mc! _));exact⟨_Y (z5E xs lo hi) hz,_,0,(nS! (hZ! 0 lo)).take (hZ! v! hi-hZ! 0 lo),gN!⟩
noncomputable def z7z:eH! V
 | .non=>true | .bl _=>true | .int _=>true | .str _=>true | _=>false
noncomputable def eqV:V->eH! V
 | .non,.non=>true | .bl a,.bl b=>a==b | .bl a,.int b=>(ai! a 1 0)==b | .int a,.bl b=>a==(ai! b 1 0) | .int a,.int b=>a==b | .str a,.str b=>a==b | _,_=>false
theorem zp2(ry:wA y u)(rx:wA x v)(fy:z7z y=c!)(fx:z7z x=c!):SeqAt.EqAt A s u v (eqV y x):=by cases y with
 | non=>
  cases ry;cases x with
  | non=>cases rx;exact SeqAt.EqAt.same _ | bl b=>cases rx;exact SeqAt.EqAt.none_bool b | int b=>obtain⟨t,rfl⟩:=rx;exact SeqAt.EqAt.none_int b t | str b=>obtain⟨t,rfl⟩:=rx;exact SeqAt.EqAt.none_str b t | _=>exact rj! fx
 | bl a=>
  cases ry;cases x with
  | non=>cases rx;exact SeqAt.EqAt.bool_none a | bl b=>cases rx;exact SeqAt.EqAt.bool_bool a b | int b=>obtain⟨t,rfl⟩:=rx;exact SeqAt.EqAt.bool_int a b t | str b=>obtain⟨t,rfl⟩:=rx;exact SeqAt.EqAt.bool_str a b t | _=>exact rj! fx
 | int a=>
  obtain⟨t',rfl⟩:=ry;cases x with
  | non=>cases rx;exact SeqAt.EqAt.int_none a t' | bl b=>cases rx;exact SeqAt.EqAt.int_bool a t' b | int b=>obtain⟨t,rfl⟩:=rx;exact SeqAt.EqAt.int_int a t' b t | str b=>obtain⟨t,rfl⟩:=rx;exact SeqAt.EqAt.int_str a t' b t | _=>exact rj! fx
 | str a=>
  obtain⟨t',rfl⟩:=ry;cases x with
  | non=>cases rx;exact SeqAt.EqAt.str_none a t' | bl b=>cases rx;exact SeqAt.EqAt.str_bool a t' b | int b=>obtain⟨t,rfl⟩:=rx;exact SeqAt.EqAt.str_int a t' b t | str b=>obtain⟨t,rfl⟩:=rx;exact SeqAt.EqAt.str_str a t' b t | _=>exact rj! fx
 | _=>exact rj! fy
noncomputable def eqU(x:V)(u:Value):Bool:=match u with
 | .none=>eqV at! x | .bool b=>eqV ho! x | .int i _=>eqV ac! x | .str z _=>eqV (ax! z) x | _=>false
theorem zkO(r:wA y u)(f:z7z y=c!):eqU x u=eqV y x:=by cases y with
 | non=>cases r;rfl | bl b=>cases r;rfl | int i=>obtain⟨t,rfl⟩:=r;rfl | str z=>obtain⟨t,rfl⟩:=r;rfl | _=>exact rj! f
theorem z6i: ∀{xs:List V}{us:List Value},iN!->nT! z7z=c!->us.any (eqU x)=xs.any λy=>eqV y x
 | _,_,.nil,_=>rfl | y::xs,u::us,.cons r t,f=>by
  rw[_cc,_Q]at f;rw[List.any_cons,List.any_cons,zkO r f.1,z6i t f.2]
theorem z1X(rx:wA x v)(fx:z7z x=c!):∀{xs:List V}{us:List Value},iN!->nT! z7z=c!->∀u∈us,SeqAt.EqAt A s u v (eqU x u)
 | _,_,.nil,_=>λu hu=>by cases hu | y::xs,u::us,.cons r t,f=>λu' hu=>by
  rw[_cc,_Q]at f;rcases d2! hu with rfl | hu;·rw[zkO r f.1];exact zp2 r rx f.1 fx
  ·exact z1X rx fx t f.2 u' hu
noncomputable def inV(x:V)(xs:aU!):Bool:=xs.any λy=>eqV y x
def rIn(K:W.Frag)(cf:Bool):R2:=hw! (∃p xs,y=b9!/\(SqL K H p xs\/en! K p xs)/\z7z x=c!/\nT! z7z=c!/\Q (.bl (ai! cf (! inV x xs) (inV x xs))) H)
theorem zhE:dE! .In (rIn X.K t!):=by
 intro ae s O H x y v u Q I rx ry h;obtain⟨p,xs,rfl,hq,fx,fs,q⟩:=h;cases ry;rcases hq with hq | hq
 ·obtain⟨af,r,pl,hz⟩:=lG!;refine SeqAt.in_listAt (eqU x) p9! (λw hw=>z1X rx fx r fs w (by simpa using hw)) (bj! (.bl _) H I ?_);rw[show sc! x=af.any (eqU x) by simp,z6i r fs];exact q
 ·obtain⟨af,r,pl,hz⟩:=nf!;refine SeqAt.in_tupleAt (eqU x) pl (λw hw=>z1X rx fx r fs w (by simpa using hw)) (bj! (.bl _) H I ?_);rw[show sc! x=af.any (eqU x) by simp,z6i r fs];exact q
theorem zaa:dE! .NotIn (rIn X.K c!):=by
 intro ae s O H x y v u Q I rx ry h;obtain⟨p,xs,rfl,hq,fx,fs,q⟩:=h;cases ry;rcases hq with hq | hq
 ·obtain⟨af,r,pl,hz⟩:=lG!;refine SeqAt.notIn_listAt (eqU x) p9! (λw hw=>z1X rx fx r fs w (by simpa using hw)) (bj! (.bl _) H I ?_);rw[show sc! x=af.any (eqU x) by simp,z6i r fs];exact q
 ·obtain⟨af,r,pl,hz⟩:=nf!;refine SeqAt.notIn_tupleAt (eqU x) pl (λw hw=>z1X rx fx r fs w (by simpa using hw)) (bj! (.bl _) H I ?_);rw[show sc! x=af.any (eqU x) by simp,z6i r fs];exact q
theorem zaL:lJ! X "len" (∃p ys,xs=[b9!]/\(SqL X.K H p ys\/en! X.K p ys)/\Q (d! dr!) H):=by
 intro ae s O H xs us Q I r h;obtain⟨p,ys,rfl,hq,q⟩:=h;obtain⟨u,rfl,rx⟩:=kJ!;cases rx;have hn:=zdz;rcases hq with hq | hq
 ·obtain⟨af,r',pl,hz⟩:=lG!;have ao:=r'.length;exact Calls.call_len_list p9! (by simp only[_s]<;>lia) ⟨d! dr!,H,ia!,⟨ft!+1,by rw[_s,ao]⟩,q⟩
 ·obtain⟨af,r',pl,hz⟩:=nf!;have ao:=r'.length;exact len_tuple pl (by simp only[_s]<;>lia) ⟨d! dr!,H,ia!,⟨ft!+1,by rw[_s,ao]⟩,q⟩
theorem zbR:we X c1! (λxs H Q=>∃p ys,xs=[b9!]/\(SqL X.K H p ys\/en! X.K p ys)/\∀l,H l=a!->Q ei! (hE! l ib!)):=by
 intro ae s O H xs us Q I r h;obtain⟨p,ys,rfl,hq,q⟩:=h;obtain⟨u,rfl,rx⟩:=kJ!;cases rx;have fin:∀(af:List Value),hr! ys->ov!->∀(h':Heap) (c':Nat),(∀b o',fx! b o'->f0! b o')-> f0! am! ({cls:=c1!,dict:=none,data:=ot! c',slots:=#[]})->EP X ae O Q fy! {s with heap:=h'}:=λaf r' hz h' c' kp e=> bj! fy! _ (I.laid kp ah! (show jG aR! X.w _ h' _ ib! from⟨hz,af,c',r',e⟩)) (q _ (mc! _));rcases hq with hq | hq
 ·obtain⟨af,r',pl,hz⟩:=lG!;have ao:=r'.length;obtain⟨o,ho,hc,n,hd⟩:=pl.isList;exact call_list_seq p cT! ho hc hd (λh' c' kp e=>fin af r' hz h' c' kp e) (by simp only[_s]<;>lia)
 ·obtain⟨af,r',pl,hz⟩:=nf!;have ao:=r'.length;obtain⟨o,ho,hc,n,hd⟩:=pl;exact call_list_seq p (R! rfl) ho hc hd (λh' c' kp e=>fin af r' hz h' c' kp e) (by simp only[_s]<;>lia)
theorem z9L:we X du! (λxs H Q=>∃p ys,xs=[b9!]/\((SqL X.K H p ys/\∀l,H l=a!->Q ei! (hE! l (p! ys)))\/(en! X.K p ys/\Q b9! H))):=by
 intro ae s O H xs us Q I r h;obtain⟨p,ys,rfl,h⟩:=h;obtain⟨u,rfl,rx⟩:=kJ!;cases rx;rcases h with⟨hq,q⟩ | ⟨hq,q⟩
 ·obtain⟨af,r',pl,hz⟩:=lG!;have ao:=r'.length;refine call_tuple_list p9! (λh' kp=>?_) (by simp only[_s]<;>lia);have I1 := I.kept (t':=s.toks) kp;exact bj! (q! h'.objs.size) _ (I1.laid (t':=s.toks) (lI! _ e) ah! (show jG aR! X.w _ _ _ (p! ys) from⟨hz,af,r',zfp.new _ _⟩)) (q _ (sz! ah!))
 ·obtain⟨af,r',pl,hz⟩:=nf!;exact call_tuple_same pl (bj! b9! H I q)
def tyV(K:W.Frag)(T:String)(x:V)(H:Hp):j!:=match x with
 | .str _=>T=fU! | .int _=>T=ee! | .ref p=>(T=d0!/\∃xs,SqL K H p xs)\/(T=dd!/\∃o,mJ! p=b! o/\fV!=du!/\o.dict=a!)\/ (T=np!/\((∃ah,H p=b! gE!)\/∃ah,H p=b! kX!))\/(T="set"/\∃S n,H p=b! (.set S n)) | _=>False
theorem zoP{O:St} (I:K!)(r:wA x v)(ty:tyV X.K T x H): o1! v T/\∀a,v=ad!->∃ob,fx! a ob/\ob.dict=a!:=by cases x with
 | str z=>
  obtain⟨t,rfl⟩:=r;cases (ty);exact⟨typeIs_str s z t,λ_ e=>nomatch e⟩ | int i=>
  obtain⟨t,rfl⟩:=r;cases (ty);exact⟨_b6 s i t,λ_ e=>nomatch e⟩ | ref p=>
  cases r;rcases ty with⟨rfl,xs,hq⟩ | ⟨rfl,o,hk,hc,hd⟩ | ⟨rfl,hk⟩ | ⟨rfl,S,n,hk⟩
  ·obtain⟨af,_,pl,_⟩:=lG!;refine⟨pl.isList.typeIs,λa e=>?_⟩;cases e;obtain⟨o,n,e,c,hd,_⟩:=pl;exact cj! e hd
  ·refine⟨cj! (I.kIn p o hk) hc,λa e=>?_⟩;cases e;exact cj! (I.kIn _ o hk) hd
  ·obtain⟨o,e,ex⟩:=(show ∃o,da! p/\o.ExactDict from by
    rcases hk with⟨ah,hk⟩ | ⟨ah,hk⟩
    ·obtain⟨_,_,_,_,o,_,_,e,ex,_⟩:=gD! p hk;exact cj! e ex
    ·obtain⟨_,_,_,_,o,_,_,e,ex,_⟩:=gD! p hk;exact cj! e ex);refine⟨cj! e ex.1,λa e2=>?_⟩;cases e2;exact cj! e ex.2.1
  ·obtain⟨o,_,_,_,e,ex,_⟩:=gD! p hk;refine⟨cj! e ex.1,λa e2=>?_⟩;cases e2;exact cj! e ex.2.1 | _=>exact lY! ty
def tBM(K:W.Frag)(T:String)(r:V->aU!->Hp->ej!)(to:TE)(t:TA):TE:=gt! (to O H (hu! (tyV K T x H1/\t O H1 λxs H2=>r x xs H2 Q)))
variable {o e:Expr}{es:aC!}{to:TE}{t:TA}{name:Str}{ap ak:Pos}{T id:String}{r:V->aU!->Hp->ej!}
theorem znw(pa:PlainAttrs T) (slot:Slot T iu! id) (gS:typeOf (.builtin id)=dH! (aF! "method_descriptor")) (hm:MtR X id r) (ho:U! o to) (ha:PA X (e::es) t) (am:y! (lw! o iu! gg!=gg!)) (aH:c6! (hd! (hC! ak (e::es)) (! x.1)&&hd! (no! ak []) (iq! x.1) && bi! (r! (e::es)+r! ([]:gz!)+(nd! ([]:gz!) 0 1)<30))) (ai:c6! pH!) (hs:y! (aq! (e::es)=dF!::if!)) (aw:y! ((hC! ak es).any (·.1)=t!)): U! (e6! (ml! o iu!) (e::es) [] ak) (tBM X.K T r to t):=by
 refine it! (_bW am aH ai rfl (thn (ho ae s O H _ I h) λv s1 ⟨x,H1,I1,r1,ty,q1⟩=>?_));obtain⟨h1,h2⟩:=zoP I1 r1 ty;refine⟨T,id,pa,slot,gS,h1,h2,?_⟩;have hA:=ha ak ae s1 O H1 _ I1 q1;rw[hs]at hA ⊢;exact _bX (by show (t!||(hC! ak es).any (·.1))=t!;rw[aw]<;>rfl) (_bv (thn hA λus s2 ⟨vs,H2,I2,r2,q2⟩=>hm ae s2 O H2 x vs v us Q I2 r1 r2 q2))
end
def MtM(X:Cx) (id:String) (r:V->aU!->Hp->ej!):j!:= ∀(ae:List (Addr×Obj)) (s:Shared) (O:St) (H:Hp) (x:V) (xs:List V) (v:Value) (us:List Value) (Q:VK),K!->wA x v->iN!->r x xs H Q-> bI! (pJ! id (v::us)) (EP X ae O Q) s
theorem xn.one:∀{x:V}{us:List Value},j1! [x]->∃u,us=[u]/\wA x u | _,_,.cons r .nil=>aA! _ r
theorem xn.rep(h:iN!):∀k:Nat,xn (hB! k xs) (hB! k us)
 | 0=>cn! | k+1=>xn.append h (xn.rep h k)
theorem foldl_rep(af:cR!):∀(k:Nat)(acc:List Value), List.foldl (λx1 x2=>x1++x2) acc.toArray (gW! k e2!)=m0! (acc++hB! k af)
 | 0,acc=>by simp | k+1,acc=>by rw[<- (show (acc++af)++hB! k af=acc++hB! (k+1) af from by rw[_aM,_bt,_bY]),<- foldl_rep af k (acc++af),<- (show acc.toArray++e2!=m0! (acc++af) from by simp),_aM,_a6]
section
variable {X:Cx}{ae:c4!}{O:St}{H:Hp}{s:Shared}{l b:Addr}{xs ys zs:aU!}
theorem Inv.lset{af aP:cR!} (I:K!) (hH:H l=L! xs) (e:fx! l ({cls:=c1!,data:=ot! n})) (hf:f e2!=aP.toArray) (hv:xn ys aP) (hz:ov!): cB! (hE! l ib!) ({s with heap:=lr! l f,toks:=t'}):=by
 have q:=PySem.IsL.update e f;rw[hf]at q;exact I.write (by rw[hH];exact trivial) cT! (λb' u hb hu=>bL! (Heap.get?_update_other G! (sA! f) (_bM hb)) hu) (gc! q) ⟨hz,aP,_,hv,q⟩
theorem Inv.lnew(I:K!) (hv:hr! ys) (hz:ov!): cB! (hE! am! ib!) ({s with heap:=hW! ({cls:=c1!,data:=.seq e2!}),toks:=t'}):= I.laid (λ_ _ q=>_g _ q) ah! ⟨hz,af,0,hv,gN!⟩
theorem Inv.fresh(I:K!):H am!=a!:=mc! _
theorem Inv.lstM(I:K!)(hH:H l=L! xs):v!<=aW!/\∃(af:List Value)(n:Nat),hr! xs/\v!=jC!/\fx! l ({cls:=c1!,data:=ot! n}):=by
 obtain⟨z,af,n,r,e⟩:=gD! l hH;exact⟨z,af,n,r,aE!,e⟩
theorem zjW(h:n<=aW!):Builtin.List.listTooLong n=t!:=_aN (by lia)
end
section
variable {X:Cx}
def zmY:V->aU!->Hp->ej!:=λx vs H Q=>∃l xs y,x=ei!/\vs=[y]/\H l=L! xs/\v!<aW!/\Q at! (hE! l (ab! (xs++[y])))
theorem zh2:MtM X "list.append" zmY:=by
 intro ae s O H x vs v us Q I rx rv h;obtain⟨l,xs,y,rfl,rfl,hH,hz,q⟩:=h;cases rx;obtain⟨u,rfl,ru⟩:=rv.one;obtain⟨z,af,n,r,hl,e⟩:=I.lstM hH;refine _bh F.slot_list_append (b1! e) F.entry_list_append (F.args_list_append_2 _ _) (PySem.list_append l e2! n u (by rw[_s];lia)) ⟨e,?_⟩;refine bj! at! _ (I.lset hH e (by simp) (r.append (ep! ru cn!)) ?_) q;rw[_aZ,List.length_singleton];lia
def zui:R2:=hw! (∃l k xs,x=ei!/\y=d! k/\Rd H l cD!/\-(2 ^ 63)<=k/\k<2 ^ 63/\v!*dJ!<=aW!/\ ∀p,gl!->Q b9! (fo! (ab! (hB! dJ! xs))))
theorem len_rep{α:cd!}(xs:eV!)(k:Nat):(gW! k xs).flatten.length=k*v!:=by induction k with
 | zero=>simp | succ k ih=>rw[_aM,_bt,_aZ,ih,Nat.succ_mul,Nat.add_comm]
theorem zkL:nm! zui:=by
 intro ae s O H x y v u Q I rx ry h;obtain⟨l,k,xs,rfl,rfl,hH,h1,h2,hz,q⟩:=h;cases rx;obtain⟨t,rfl⟩:=ry;obtain⟨z,af,n,r,e⟩:=hH.ok er!;have ao:iw!*dJ!<=aW!:=by rw[_s,<- (show v!=jC! from by have:=r.length;lia)];exact hz
 have gT:¬ (! Builtin.List.listFitsIndex k)=c!:=by
  rw[fitsIndex_both h1 h2];exact _av
 refine _bC (by decide) (b1! e) (λs'=>_b6 s' k t) noFill_list_mul F.fills_int_mul _bp repeat_list _df.lookup (_bh _bp (_b6 s k t) _dg (_cT _ _) (int___rmul___int_list k t l e2! n) ⟨e,rfl,b1! e,_bh F.slot_list_mul (b1! e) F.entry_list_mul (F.args_list_mul_2 _ _) (AutoListH.list___mul___list_int_3 l e2! n k t gT (by
  have:aW!<=(2 ^ 63-1) / 8:=by decide
  lia) (by
  rw[zjW ao];exact _av)) ⟨e,?_⟩⟩);rw[(show List.foldl (λx1 x2=>x1++x2) #[] (gW! (aG! af.toArray.isEmpty 0 dJ!) e2!)=(gW! dJ! af).flatten.toArray from by
  have f0 := λm=>by
   have:=foldl_rep af m [];rw[_as]at this;exact this
  rw[f0];cases af with
  | nil=>simp | cons a r'=>rw[_q (by simp)])];exact⟨q! _,_,I.lnew (r.rep dJ!) (by rw[len_rep,_cr];exact hz),rfl,q _ I.fresh⟩
end
end L2
namespace Att
open PySem.W PySem.Calls
theorem z6U: ∀(ns:List Int)(vs:List Value),WellAll P h vs (o2! WData.int)->rh! vs:=by
 intro ns;induction ns with
 | nil=>
  intro vs w;cases w;exact cn! | cons n ns ih=>
  intro vs w;cases w with | cons a b=>
   cases a;exact .cons _ _ (ih _ b)
theorem zhX{l:OpenLaw} (hn:l.most=b! n) (ci:l.row.toRowW.claim.pre jA!=c!) (gU:WellAll P h eU jA!): ∃a vs ns,eU=[k2! a]/\jA!=[WData.list (o2! WData.int)]/\ex! a ({cls:=c1!,data:=.seq es!})/\rh! vs/\e7!<=n:=by
 have hc:l.pre.holds [] {args:=args}=c!:=(pre_splitW ci).2;obtain⟨d,r,rfl,h1,h2⟩:=hasAllW_cons ((pre_splitW ci).1);obtain rfl:=hasAllW_nil h2;obtain⟨xs,rfl,h3⟩:=hasW_list h1;obtain⟨ns,rfl⟩:=items_int h3;cases gU with | cons w1 w2=>
  cases w2;cases w1 with | list ho gV=>exact⟨_,_,ns,rfl,rfl,ho,z6U ns _ gV,(by
  have h4:(WTm.not (.lt (.lit (d! n)) (.len (.arg 0)))).holds [] {args:=[.list (o2! .int)]}=c!:=by
   have h4:=(holds_andW hc).1;rw[hn]at h4;exact h4
  have h5:=condW_of h4 (w_not (w_lt w_lit (w_len_list (w_arg rfl))));(simp at h5;lia))⟩
theorem zh4(l:OpenLaw)(args:dZ! WData):l.row.toRowW.claim.post jA! (.bool c!) jA!=c!:= postW_of ((by rfl)) ((w_eq_bool (w_res rfl) w_lit)) rfl
theorem zcw{l:OpenLaw} (hn:l.most=b! n)(gW:d.params.defaults=[]) (call:∀(w:World)(s₀ s₁:Shared)(mg mb:Str->Option Value)(fa:Addr)(o:Obj)(pm cd aE:Value)(a:Addr)(vs:List Value)(ns:List Int), Ground q nU! [] XP w s₀ mg mb m2!->YP w m2!-> oG! fa o->hU!=.func (docDef d.name d.params d.body d.scope pm cd aE)->s₁.heap.CodeRec cd d.name->mg d.name=a3! fa-> oG! a ({cls:=c1!,data:=.seq es!})->rh! vs->e7!<=n->s₁.gens=#[]-> kk! (model l.prog w) qa! (.call (q! fa) (dy! [ad!])) (λr s'=>r=lP! (.bool c!)/\OldK m2! gs!/\pW!=s₁.os/\q0!) i0!): WalkO q nU! XP YP l.row.toRowW d [] (λf vs=>PySem.call f vs):=by
 intro w s₀ s₁ mg mb G Yy fa o pm cd aE dV kV ho hd bA hD cY hg args eU as ci mR pM gU pN;obtain rfl:dV=X!:=Dflts.none hD gW;obtain rfl:kV=X!:=Dflts.noKw hD;obtain⟨a,vs,ns,rfl,rfl,dJ,cI,ao⟩:=zhX hn ci gU;refine enter_call (_dt (call w s₀ i0! mg mb fa o pm cd aE a vs ns G Yy ho (fd_plain hd) bA cY dJ cI ao hg) λr s' hq=>?_);obtain⟨rfl,h2,h3,h4⟩:=hq;exact⟨w! ⟨.bool c!,.bool c!,[],rfl,λ_=>rfl,.bool c!,zh4 l _,λ_=>⟨List.Pairwise.nil,λ_ hm=>(nomatch hm)⟩⟩,h2,h3,h4⟩
section
variable {prog:Program}{w:World}{A:Around}{E:bP!}{s:Shared}{K:Frag}
noncomputable def ledger(h:Heap)(L d:Addr):c4!:=rG! iW! (λa=>ai! (a=L\/a=d) a! ((pM! a).map λo=>(a,o)))
end
end Att
namespace L2
theorem za9:∀{vs:List Value}{ns:List Int},rh! vs->xn hD! vs
 | _,_,.nil=>cn! | _,_,.cons n t h=>ep! (ch! t) (za9 h)
def zsN(H:Hp):j!:=∀b,eN!\/∃o xs,cI! (dS! cD!)
theorem zjw{P:Program}{w:World}{K:W.Frag}{mg mb:Str->aN!}{CX:CXT}{k:Nat}{fa a:Addr}{fd:FuncData}{x:Str}{sp:Sp}{s₁:Shared}{vs:cR!}{ns:g!} (KX:K.In m2!)(j7:s₁.heap.Ns lT! mg)(hb:s₁.heap.Ns builtinsNs mb)(mS:∀x:Str,lB! x->mb x=k4! x)(gX:s₁.heap.NoLimit)(hg:s₁.gens=#[]) (ha:oG! a ({cls:=c1!,data:=.seq es!}))(hi:rh! vs)(hl:e7!<=aW!)(hr:hp! qa!) (F:∀base:Heap,K.In P!->sb! mg->z99 P w K mg P! CX k fa fd [x] sp)(eV:∀(s:Shared)(u:Value),p4! s fd (dy! [u]) [(x,u)]) (cG:∀H:Hp,zsN H->SqL K H a hD!->sp [ad!] H (λv _=>v=eA!) (e5! mY!)) (mT:∀H e s',CX [] H i0! (e5! mY!) e s'->mY!): kk! (model P w) qa! (.call (q! fa) (dy! [ad!])) (λr s'=>r=lP! (.bool c!)/\OldK m2! gs!/\pW!=s₁.os/\q0!) i0!:=by
 have rv:=za9 hi;have eW:∀H:Hp,zsN H->SqL K H a hD!->HOk P w H m2!->(∀b,H b≠a!->b=a)->(H a≠a!->oC!=a!)-> kk! (model P w) qa! (.call (q! fa) (dy! [ad!])) (λr s'=>r=lP! (.bool c!)/\OldK m2! gs!/\pW!=s₁.os/\q0!) i0!:=by
  intro H hO hS hok hA hK;have bW:∀{b:Addr}{o:Obj},oG! b o->eN!->eK! (znY m2! H) b o:=λe n=>zjl e n;have eS:∀{b:Addr}{o:Obj}{es:Array DictEntry}{ep:Nat},oG! b o->hU!=.dict es ep->eN!:=λ{b o es ep} e d=>by cases q:H b with
   | none=>rfl | some u=>
    have e' := hA b (by rw[q];simp);subst e';rw[ha]at e;cases e;cases d
  have gf:∀{b:Addr}{m:Str->Option Value},s₁.heap.Ns b m->(znY m2! H).Ns b m:=λ{b m} ⟨o,es,ep,e,d,r⟩=>⟨o,es,ep,bW e (eS e d),d,r⟩;have j8 := gr! (bW (KX b o e) (by cases q:H b with
   | none=>rfl | some u=>
    have e' := hA b (by rw[q];simp);subst e';rw[hK (by rw[q];simp)]at e;cases e));refine _dt ((F _ j8 (gf j7)).run qa! [] i0! H (dy! [ad!]) [ad!] [ad!] _ _ hr ⟨rfl,⟨j8,gf j7,⟨mb,gf hb,mS⟩,let ⟨mc,h1,h2⟩:=gX;⟨mc,gf h1,h2⟩⟩,gr! (znR e),Nat.le_of_eq (zfy _ _),trivial,ce! (cN! (show b∈([]:bk!) from hb) (by simp)),hok,.of_eq hg⟩ (eV i0! ad!) (ep! rfl cn!) (cG H hO hS)) λr s' h=>?_;cases r with
  | error e=>exact bV! (mT H e s' h) | ok fl=> cases fl with
   | next=>exact lY! h | brk=>exact lY! h | cont=>exact lY! h | ret u=>
    obtain⟨v,H',os,bare,un,gY,r',q⟩:=h;subst q;obtain rfl:u=Value.bool c!:=r';refine⟨rfl,OldK.of_keep (gr! ?_),os,bare⟩;cases q:H b with
    | none=>exact un.keep b o e q (by exact λz=>cN! (show b∈([]) from z) (by simp)) (by simp) | some u=>
     rcases hO b with z | ⟨ob,xs,z⟩;·rw[q]at z;cases z
     ·obtain⟨e1,_⟩:=hok b _ z;obtain⟨e2,_⟩:=gY b _ (un.frzs b ob _ z);rw[e]at e1;cases e1;exact e2
 cases hk:oC! with
 | some o=>
  have e:=KX a o hk;rw[ha]at e;cases e;refine eW (λ_=>a!) (λ_=>cT!) (R! ⟨_,es!,_,hk,rfl,rfl,rfl,by rw[_s,hi.length];exact hl,by exact rv⟩) (λb u z=>by have z' := z;cases z') (λb z=>f6! z) λz=>f6! z | none=>
  refine eW (λb=>h1! (b=a) (b! (.frz {cls:=c1!,data:=.seq es!} (ab! hD!)))) (λb=>?_) (w! (d8! ({cls:=c1!,data:=.seq es!}) gC!)) (λb u z=>?_) (λb z=>?_) λ_=>hk
  ·by_cases hb:b=a;·exact R! ⟨_,_,_h hb⟩
   ·exact w! (_q hb)
  ·by_cases hb:b=a
   ·cases ((_h hb).symm.trans z);subst hb;exact⟨ha,by rw[_W];exact hl,vs,_,rv,ha⟩
   ·cases ((_q hb).symm.trans z)
  ·by_cases hb:b=a;·exact hb
   ·exact cN! (_q hb) z
noncomputable abbrev KOf{K:W.Frag}{h:Heap}(_:hM!):W.Frag:=K
noncomputable def jt(s:Stmt):Arguments:=match s with
 | .FunctionDef _ a _ _ _ _ _ _ _ _=>a | _=>{posonlyargs:=[],args:=[],vararg:=none,kwonlyargs:=[],kw_defaults:=[],kwarg:=none,defaults:=[]}
noncomputable def xG(s:Stmt):ng!:=match s with
 | .FunctionDef _ _ b _ _ _ _ _ _ _=>b | _=>[]
noncomputable def zj(s:Stmt):Scope:=match s with
 | .FunctionDef _ _ _ _ _ _ sc _ _ _=>sc | _=>{kind:=rV!,names:=[],isGenerator:=false,isCoroutine:=false}
noncomputable abbrev CX0:CXT:=λ_ _ _ _ _ _=>mY!
abbrev E0:XK:=e5! mY!
theorem zjx: Passes CX0 X E0:=λ_ _ _ _ _ _ _ h=>h.elim
structure Fun(K:W.Frag)(x qual:Str)(st:Stmt)(f:Addr)(fd:FuncData):j! where
 ex:∃(oc:Value)(od:Option Addr)(kV aE pm:Value)(an:Option Addr)(aj ct:Value)(cF:Array (Option Value)), fd=W.fnOf x ao! (jt st) hR! cV! X! kV aE pm an aj ct/\mJ! f=b! ⟨oc,od,.func fd,cF⟩/\W.codeIn K aj ao!=c!
 kp:oD! K f=c!
section
variable {P:Program}{w:World}{K:W.Frag}{mg:Str->aN!}{base:Heap}
theorem Fun.ok{x qual:Str}{st:Stmt}{f:Addr}{fd:FuncData}{N ps:al!}{k:Nat}{sp:Sp}(F:Fun K x ao! st f fd)(S:S! N ps st)(len:∀vs H Q E,sp vs H Q E->mg!) (bf:∀(aj:Value)(A:Around)(outer:List Env)(s:Shared)(H:Hp)(vs:List V)(Q:VK)(E:XK),hp! (jV! ao! cV! f aj)->sp vs H Q E-> ∃t,PSs (z4E CX0 P w K mg P! N ao! cV! f aj A an! s H E).nox hR! t/\t {nx:=λ_ H'=>Q at! H',rt:=Q} (oR! N) H):z99 P w K mg P! CX0 (k+1) f fd ps sp:=by
 obtain⟨oc,od,kV,aE,pm,an,aj,ct,cF,rfl,lk,bA⟩:=F.ex;refine zod lk bA S len λA outer s H vs Q E hr cG=>?_;obtain⟨t,h,q⟩:=bf aj A an! s H vs Q E hr cG;exact aQ! t h.nox q
theorem Fun.binds{x qual:Str}{st:Stmt}{f:Addr}{fd:FuncData}{ps:al!}(F:Fun K x ao! st f fd) (h:rw! (mU!=a5!) (p5! (W.fnOf x ao! (jt st) hR! cV! X! kV aE pm an aj ct) (dy! us)=dH! lH!)):j6! K ps []:=by
 obtain⟨oc,od,kV,aE,pm,an,aj,ct,cF,rfl,lk,bA⟩:=F.ex;exact .all (h kV aE pm an aj ct)
theorem zpR{st:Stmt} {kV aE pm aj ct:Value}(l:mJ! f=b! ⟨oc,od,.func (W.fnOf x ao! (jt st) hR! cV! X! kV aE pm an aj ct),cF⟩) (c:W.codeIn K aj ao!=c!)(k:oD! K f=c!):Fun K x ao! st f (W.fnOf x ao! (jt st) hR! cV! X! kV aE pm an aj ct):=as! ⟨oc,od,kV,aE,pm,an,aj,ct,cF,rfl,l,c⟩ k
end
end L2
set_option maxHeartbeats 4000000
namespace L2
noncomputable def zcB(env:Env):dv! lb!->dv! lU!->dv! lU!
 | [],acc=>acc | (n,k)::r,acc=>zcB env r (ai! (k==bK!) (match env.cells.lookup n with | some c=>(n,c)::acc | none=>acc) acc)
theorem z6Y: r5! (∀x c,acc.lookup x=b! c->env.cells.lookup x=b! c) (∀x c,jn! (zcB env gX! acc) x c->env.cells.lookup x=b! c)
 | [],acc,ha=>ha | (n,k)::r,acc,ha=>by
  refine z6Y r _ λx c=>?_;split
  ·split
   ·rename_i c' hc;intro h;rw[_V]at h;split at h
    ·rename_i hb;cases h;rw[i3! hb];exact hc
    ·exact ha x c h
   ·exact ha x c
  ·exact ha x c
theorem zb8: r5! (h7! (acc.lookup x)) (h7! (nP! (zcB env gX! acc) x))
 | [],acc,ha=>ha | (n,k)::r,acc,ha=>by
  refine zb8 r _ ?_;split
  ·split
   ·rw[_V];split;·rfl
    ·exact ha
   ·exact ha
  ·exact ha
theorem z8H: r5! ((x,hX!)∈gX!) ((∃c,env.cells.lookup x=b! c)->∃c,jn! (zcB env gX! acc) x c)
 | [],acc,h,_=>nomatch h | (n,k)::r,acc,h,hc=>by
  rcases d2! h with e | h
  ·cases e;obtain⟨c,hc⟩:=hc;unfold zcB;rw[hc];exact Option.isSome_iff_exists.mp (zb8 r _ (by simp))
  ·exact z8H r _ h hc
theorem z7R(f:Str×lb!->dv! lU!->Sem (ForInStep (dv! lU!))) (hf:∀n k cs,f (n,k) cs=ai! (k==bK!) (do let a <- cellOf env n;dH! (.yield ((n,a)::cs))) (dH! (.yield cs))): r5! (∀y∈names,y.2=bK!->∃c,env.cells.lookup y.1=b! c) (forIn gX! acc f=dH! (zcB env gX! acc))
 | [],acc,_=>rfl | (n,k)::r,acc,h=>by
  rw[List.forIn_cons,hf];have ih:=λgZ=>z7R f hf r gZ (cO! (h y (_H _ hy)));unfold zcB;by_cases hk:k=bK!
  ·subst hk;obtain⟨c,hc⟩:=h (n,bK!) _ak rfl;have cC := hc;have e:cellOf env n=dH! c:=by unfold cellOf;rw[cC]
   rw[e,cC];exact ih _
  ·have hb:(k==hX!)=t!:=by simpa using hk
   rw[hb];exact ih _
theorem kC(h:∀y∈scope.names,y.2=bK!->∃c,env.cells.lookup y.1=b! c):closureFor bt! env=dH! (ou! env []):=by
 simp only[closureFor];rw[z7R _ (λn k cs=>by cases hk:k==hX!<;>rfl) ld! [] h];rfl
theorem uS:∀(names:List (Str×NameKind))(n:Nat)(acc:List (Str×Addr)),rZ! n gX! acc=rZ! n gX! []++acc
 | [],_,_=>rfl | (x,k)::r,n,acc=>by
  unfold cellsFrom;split
  ·rw[uS r (n+1) ((x,n)::acc),uS r (n+1) [(x,n)]];simp
  ·exact uS r n acc
theorem jV: ∀(names:List (Str×NameKind))(n:Nat)(acc:List (Str×Addr)),(x,c)∈rZ! n gX! acc->(x,c)∈acc\/(x,NameKind.cell)∈gX!
 | [],_,_,h=>w! h | (y,k)::r,n,acc,h=>by
  unfold cellsFrom at h;split at h
  ·rename_i hk;rcases jV r _ _ h with q | q
   ·rcases d2! q with e | q
    ·cases e;refine R! ?_;rw[(i3! hk)];exact _ak
    ·exact w! q
   ·exact R! (_H _ q)
  ·rcases jV r _ _ h with q | q;·exact w! q
   ·exact R! (_H _ q)
noncomputable def zkh(X:Cx)(scope:Scope)(C:Addr):Env:= {scope:=relabel bt! aX!,locals:=C,globals:=X.env.globals,cells:=ma! (C+1) []++ou! aX! [],qual:=X.env.qual,func:=none,code:=X.env.code,frame:=X.env.frame,builtins:=X.env.builtins}
noncomputable def yb(X:Cx)(N':al!)(scope:Scope)(ex:bk!)(s:Shared)(H:Hp):Cx where
 prog:=X.prog;w:=X.w;K:=X.K;mg:=X.mg;base:=X.base;A:=X.A;N:=N';s₀:=s;H₀:=H;env:=zkh X bt! am!;outer:=X.stack;stack:=X.stack;ex:=ex;fn:=λx=>jB! x==dk!;calm:=X.calm;pn:=[];xe:=iE!
theorem z1j{env:Env}{x:Str}{k:NameKind}:∀{names:List (Str×NameKind)},names.lookup x=b! k-> jn! (names.map λ(n,k)=>ai! (k==hX!&&mm!&&mh!==dk!) (n,NameKind.cell) (n,k)) x k\/ (k=bK!/\nP! (names.map λ(n,k)=>ai! (k==hX!&&mm!&&mh!==dk!) (n,NameKind.cell) (n,k)) x=dk!)
 | [],h=>by cases h | (n,k')::r,h=>by
  have ih:=@z1j env x k r;show rP! ((aG! (k'==hX!&&mm!&&mh!==dk!) (n,NameKind.cell) (n,k'))::_)=_\/(_/\rP! ((aG! (k'==hX!&&mm!&&mh!==dk!) (n,NameKind.cell) (n,k'))::_)=_);cases hx:x==n with
  | true=>
   simp only[_V,hx]at h;cases h;by_cases hc:(k==hX!&&mm!&&mh!==dk!)=c!
   ·rw[_h hc];simp only[_Q,_aw]at hc;exact d8! hc.1.1 (by simp[_V,hx])
   ·rw[_q hc];exact w! (by simp[_V,hx]) | false=>
   simp only[_V,hx]at h;by_cases hc:(k'==hX!&&mm!&&mh!==dk!)=c!;·rw[_h hc];simp only[_V,hx];exact ih h
   ·rw[_q hc];simp only[_V,hx];exact ih h
theorem js{env:Env}{x:Str}{k:NameKind}:∀{names:List (Str×NameKind)}, jn! (names.map λ(n,k)=>ai! (k==hX!&&mm!&&mh!==dk!) (n,NameKind.cell) (n,k)) x k->(k=.cell\/k=bK!)->(x,NameKind.cell)∈gX!\/(x,hX!)∈gX!
 | [],h,_=>by cases h | (n,k')::r,h,hk=>by
  change rP! ((aG! (k'==hX!&&mm!&&mh!==dk!) (n,NameKind.cell) (n,k'))::_)=_ at h;have step:(rP! (m3! (λ(n,k)=>ai! (k==hX!&&mm!&&mh!==dk!) (n,NameKind.cell) (n,k)))=b! k)->(x,NameKind.cell)∈(n,k')::r\/(x,hX!)∈(n,k')::r:=λq=> ((@js env x k r) q hk).elim (λz=>w! (_H _ z)) λz=>R! (_H _ z);by_cases hc:(k'==hX!&&mm!&&mh!==dk!)=c!
  ·rw[_h hc,_V]at h;split at h
   ·rename_i hb;simp only[_Q,_aw]at hc;rw[i3! hb,hc.1.1];exact R! _ak
   ·exact step h
  ·rw[_q hc,_V]at h;split at h
   ·rename_i hb;cases h;rw[i3! hb];rcases hk with rfl | rfl;·exact w! _ak
    ·exact R! _ak
   ·exact step h
noncomputable def inner(mp:eC!)(O:St):St:=mp.map λo=>match o with | some j=>(O[j]?).getD a! | none=>none
noncomputable def za2(N:al!)(names:dv! lb!):al!->eH! eC!
 | [],[]=>true | _::r,none::mp=>za2 N gX! r mp | x::r,some j::mp=>N[j]? == dR!&&names.lookup x==b! bK!&&za2 N gX! r mp | _,_=>false
theorem z8R: ∀{N':List Str} {mp:List (Option Nat)},za2 N gX! N' mp=c!->mp.length=N'.length
 | [],[],_=>rfl | _::r,none::mp,h=>_aK (· + 1) (z8R (N':=r) (mp:=mp) h) | _::r,some _::mp,h=>_aK (· + 1) (z8R (N':=r) (mp:=mp) (m4! h).2) | [],none::_,h=>by cases h | [],some _::_,h=>by cases h | _::_,[],h=>by cases h
theorem zda: ∀{N':List Str} {mp:List (Option Nat)} {i j:Nat} {x:Str},za2 N gX! N' mp=c!->aj! N' x->aj! mp (b! j)->E! N j x/\names.lookup x=b! bK!
 | [],_,_,_,_,_,h,_=>by cases h | _::_,[],_,_,_,_,_,h=>by cases h | _::_,none::_,0,_,_,_,_,h=>by cases h | _::_,some _::_,0,_,_,h,h1,h2=>by
  have h:=m4! (m4! h).1;simp at h1 h2;subst h1 h2;exact⟨i3! h.1,i3! h.2⟩ | _::r,none::mp,i+1,_,_,h,h1,h2=>zda (N':=r) (mp:=mp) h (by exact h1) (by exact h2) | _::r,some _::mp,i+1,_,_,h,h1,h2=>zda (N':=r) (mp:=mp) (m4! h).2 (by exact h1) (by exact h2)
section
variable {X:Cx}{ae:c4!}{O:St}{H:Hp}{s s1:Shared}{scope:Scope}{N':al!}{ex:bk!}{mp:eC!}
theorem zfa{α:cd!} {l1 l2:dv! α}{c:α}(h:jn! (l1++l2) x c):l1.lookup x=b! c\/(l1.lookup x=a!/\l2.lookup x=b! c):=by
 rw[_bN]at h;cases e:l1.lookup x with
 | some d=>rw[e]at h;exact w! h | none=>rw[e]at h;exact d8! rfl h
theorem zfe(I:K!)(aV:jU!)(aR:∀y∈scope.names,jB! y.1=b! y.2) (aI:∀y∈scope.names,y.2=bK!->X.env.kindOf y.1=dk!\/X.env.kindOf y.1=b! bK!)(aW:kd! N' mp=c!) (cj:∀b∈ex,b<am!/\eN!/\iC! b/\b∉iY!/\(b∈k5!\/X.s₀.heap.objs.size<=b)/\(∀x c,gy! x c->c≠b)) (e1:p0!=rx! (hW! ({cls:=jQ!,data:=lf! #[]})))(e2:s1.os=s.os)(e3:s1.gens=s.gens): Inv cm! [] hS! H s1:=by
 have keep:bz! (da! b->s1.heap.get? b=b! o):=gr! (by rw[e1];exact pushCells_keeps _ _ b o (_g _ e))
 have ok:=cellsFrom_ok ld! (hW! ({cls:=jQ!,data:=lf! #[]})) dD! [] ⟨λ_ _ hm=>(nomatch hm),List.Pairwise.nil⟩ (by rw[_aG];exact ah!);rw[_aG,<- e1]at ok;have eX:∀x c,jn! (ou! aX! []) x c->gy! x c:=z6Y ld! [] (λx c h=>by cases h);have j9:∀x c,gy! x c->c<am!:=λx c h=>by obtain⟨v,q⟩:=nn! x h;exact q.lt
 have own := λx c h=>ok.empty x c (_ao h);have cJ:∀x c,(zkh X bt! am!).cells.lookup x=b! c->(jn! (ma! dD! []) x c/\s1.heap.IsCell c a!/\dD!<=c)\/(gy! x c):=λx c h=>by
  rcases zfa h with q | ⟨_,q⟩;·exact w! ⟨q,own x c q⟩
  ·exact R! (eX x c q)
 refine⟨⟨I.ok.mod,aV,I.ok.glob,I.ok.blt,ah!,λx y c h1 h2=>?_,ap! ?_,λx c hf h=>?_,I.ok.hd,I.ok.frames,cT!,ce! ⟨_D (cj b hb).1,λx c h=>?_⟩,gr! (I.bs b o e),_Y I.ok.bsz I.sz,λb o e hb=>?_,λb hb hf=>?_,I.stack,I.stkFree⟩, e2,by rw[e3];exact I.bare,Un.kept keep,?_,λx c h=>?_,mc! _,λx c h=>?_,bo! (cN! (show p∈([]) from hp) (by simp)),I.hok.kept keep,?_⟩
 ·rcases cJ x c h1 with⟨q1,_,l1⟩ | q1<;>rcases cJ y c h2 with⟨q2,_,l2⟩ | q2;·exact name_of_addr ok.apart (_ao q1) (_ao q2)
  ·exact kD! (_i (j9 y c q2) (_cU l1)) _
  ·exact kD! (_i (j9 x c q1) (_cU l2)) _
  ·exact I.ok.inj x y c q1 q2
 ·have hx':(x,NameKind.cell)∈ld!\/(x,hX!)∈ld!:=by
   rcases hx with hx | hx;·exact js hx cT!
   ·exact js hx (R! rfl)
  show ∃c,jn! (ma! dD! []++ou! aX! []) x c;rw[_bN];cases e:nP! (ma! dD! []) x with
  | some c=>exact ch! c | none=>
   rcases hx' with hx' | hx'
   ·obtain⟨c,q⟩:=z53 (aR (x,.cell) hx');rw[q]at e;cases e
   ·obtain⟨c,q⟩:=z8H ld! [] hx' (I.ok.has x (aI (x,bK!) hx' rfl));exact⟨c,by exact q⟩
 ·obtain⟨c',q⟩:=z53 (i3! hf);have h':jn! (ma! dD! []++ou! aX! []) x c:=h;rw[_bN,q]at h';have e := _I h';subst e;exact _bz (Nat.lt_of_succ_le (own x c' q).2)
 ·rcases cJ x c h with⟨_,_,l⟩ | q
  ·intro z;rw[z]at l;exact kD! (_i (cj b hb).1 (_cU l)) _
  ·exact (cj b hb).2.2.2.2.2 x c q
 ·rcases (cj b hb).2.2.2.2.1 with z | z;·exact I.ok.noex b o e z
  ·exact kD! (_i (_i cX! I.ok.bsz) z) _
 ·rcases d2! (I.stkSub b hf) with z | z;·exact (cj b hb).2.2.1 z
  ·exact (cj b hb).2.2.2.1 z
 ·refine⟨λ_=>a!,?_,λi x v h1 h2 h3=>?_⟩
  ·rw[e1];exact (Heap.Ns.new G! jQ!).keeps (pushCells_keeps _ _)
  ·have ck := h2;unfold inner at ck;rw[_z]at ck;cases em:mp[i]? with
   | none=>rw[em]at ck;cases ck | some o=>
    rw[em]at ck;cases o with
    | none=>cases ck | some j=>
     obtain⟨hj,hl⟩:=zda aW h1 em;have eY := _ao hl;obtain⟨m,hn,eZ⟩:=I.loc;have kx := aI _ eY rfl;obtain⟨u,r,L⟩:=eZ j x v hj (by
      simp only[_af]at ck;cases eO:O[j]? with
      | none=>rw[eO]at ck;cases ck | some o=>rw[eO]at ck;exact ck) (by rcases kx with k | k;exact R! (w! k);exact h5! k);refine⟨u,r,R! ?_⟩;rcases L with⟨k,_⟩ | ⟨_,c,hc,bU⟩;·rcases kx with k' | k'<;>(rw[k]at k';cases k')
     ·refine⟨?_,c,?_,bU.keeps keep⟩
      ·rcases z1j hl with q | ⟨_,q⟩;·exact R! q
       ·exact w! q
      ·show jn! (ma! dD! []++ou! aX! []) x c;rw[_bN];cases e:nP! (ma! dD! []) x with
       | some c'=> exact cN! ((jV _ _ _ (_ao e)).resolve_left (by simp)) (λz=>by
       have a:=aR _ z;rw[hl]at a;cases a) | none=>
        obtain⟨c2,q⟩:=z8H ld! [] eY ⟨c,hc⟩;have q2:=eX x c2 q;rw[hc]at q2;cases q2;exact q
 ·rcases cJ x c h with⟨_,q,_⟩ | q;·exact gc! q
  ·obtain⟨v,z⟩:=nn! x q;exact⟨v,z.keeps keep⟩
 ·rcases cJ x c h with⟨_,_,l⟩ | q;·exact rY! (by lia)
  ·exact I.freeC x c q
 ·unfold inner;rw[_W];exact z8R aW
end
section
variable {M:Model}{A:Around}{E:bP!}{s:Shared}
theorem zd7(h:Q {scope:=scope,locals:=s.heap.objs.size,globals:=env.globals,cells:=ma! dD! cl,qual:=env.qual,func:=none,code:=env.code,frame:=env.frame,builtins:=env.builtins} {s with heap:=rx! (hW! ({cls:=jQ!,data:=lf! #[]}))}): fk! M A (newFunctionEnv bt! env.globals cl [] env.qual a! X! (b! env)) Q E:=by
 refine _a (wpAny_alloc (_a (wpAny_layCells _ (λname kind cells=>by cases hkc:kind==NameKind.cell<;>simp[hkc]) _ _ _ _ ?_)));rw[(_aG ..)];exact _a (_m (_m h))
end
section
variable {prog:Program}{w:World}{A:Around}{E:bP!}{R:Result->eh!}{s:Shared}
theorem zaD(I:Nat->eh!) (turn:∀n s,I n s->ct! w A (oY! it) (λr s₁=>match r with
   | none=>R (.ok .next) i0! | some v=>ct! w A (letOwnedTupleGo bC it v) (λ_ k6=>ct! w A (assign bC env v) (λ_ s₂=> ct! w A (forIn aC c! λc r=>aG! r (do let ok <- pX! c env (jZ! c);sa! ok) (sa! r)) (λok s₃=> aG! ok (ct! w A (jZ! az) (λx s₄=> ct! w A (pJ! "list.append" [acc,x]) (λ_ s₅=>∃m,m<n/\I m s₅) iE! s₄) iE! s₃) (∃m,m<n/\I m s₃)) iE! lX!) iE! k6) iE! i0!) iE! s) (n:Nat)(h:I n s): kk! hT! A (.compLoop (fL! [⟨bC,hV!,aC,0⟩]) 0 it acc env) R s:=by
 refine codeAny_loop rfl I (λn s hI=>(wpAny_noted ?_)) n h;refine _a (_cb (_a (_Z (turn n s hI) (λr s₁ h₁=>?_) q1!)));cases r with
 | none=>exact _m h₁ | some v=>
  refine _a (_Z h₁ (λ_ k6 mU=>(_a (_Z mU (λ_ s₂ h₂=>_a (_Z h₂ (λok s₃ h₃=>?_) q1!)) q1!))) q1!);cases ok with
  | false=>exact _m (f5! h₃) | true=> exact _a (_a (_Z h₃ (λx s₄ h₄=>_a (_Z h₄ (λ_ s₅ h₅=>_m (_m (f5! h₅))) q1!)) q1!))
end
def zcd(X:Cx)(aC:aC!)(t:TT):j!:= ∀(ae:List (Addr×Obj))(s:Shared)(O:St)(H:Hp)(Q:Bool->Hp->Prop),K!->t O H Q-> bI! (forIn aC c! λc r=>aG! r (do let ok <- pX! c aX! (g0! c);sa! ok) (sa! r)) (TP X ae O Q) s
theorem zjZ: zcd X [] (λ_ H Q=>Q c! H):=oX! (wpAny_tests_nil ⟨H,I,h⟩)
theorem zkg(h:PT X c t):zcd X [c] t:=λae s O H Q I hq=>wpAny_tests_one (h ae s O H Q I hq)
theorem Inv.track{O:St} (I:K!)(f:zbQ X ae H a)(new:jG aR! X.w (gP! o) G! a o):cB! (gP! o) s:=by
 obtain⟨f0,f1,f2,f3,f4,f5⟩:=f;exact I.step (ch:=[a]) (ce! (by
  have e:b=a:=by simpa using hb
  subst e;exact⟨f3,f1,f4,f5⟩)) (λb o _ _ _ e _=>e) (λb o _ _ _ e _=>di! o.slots) (λb o hb _ n=>by rw[zJ (λz=>hb (by simp[z]))];exact n) (λb o _ e=>di! o) (λb xs q=>by rw[zJ (xp q f0)];exact q) (λb u xs q=>by rw[zJ (xp q f0)];exact q) (λb ps q=>⟨#[],by rw[zJ (xp q f0),q];rfl⟩) (λ_ q=>q) (λb u e=>by
  by_cases hb:b=a;·subst hb;rw[yw]at e;cases e;exact new
  ·rw[zJ hb]at e;exact (nI! b u e).stay (λ_ _ _ q=>q) (λc q=>by rw[zJ (xp q f0)];exact q) λc xs q=>by rw[zJ (xp q f0)];exact q) I.bare
def zkf(wi:TI)(mp:eC!)(g:TG)(ti:TT)(te:TE):TE:=gt! (wi O H λJ H1=>∃W:Nat->Nat->List V->Hp->Prop,(∃m,W 0 m [] H1)/\∀i m ys H,W i m ys H-> (J.stop i H/\ov!/\∀p,gl!->Q b9! (fo! ib!))\/ (J.go i H/\∀x H',J.yld i H x H'->g x hS! H' λO2 H2=>(O2.length=r! hS!/\∀(i:Nat) v,aj! hS! bx!->aj! O2 bx!)/\ ti O2 H2 λb H3=>aG! b (te O2 H3 λy H4=>ov!/\∃m',m'<m/\W (i+1) m' (ys++[y]) H4) (∃m',m'<m/\W (i+1) m' ys H3)))
def z51(X:Cx)(ae:c4!)(O:St)(C:Addr)(Q:VK)(acc:Value)(s':Shared):j!:= ∃v Hf,cB! Hf s'/\wA v acc/\Q v Hf/\(∃m,s'.heap.Ns C m)/\zbQ X ae Hf C
theorem zj5{gens:dZ! Comprehension}{O:St} {RR:dG!->lU!->Result->eh!} (aV:jU!)(aR:∀y∈scope.names,jB! y.1=b! y.2) (aI:∀y∈scope.names,y.2=bK!->X.env.kindOf y.1=dk!\/X.env.kindOf y.1=b! bK!)(aW:kd! N' mp=c!) (I2:cB! H2 lX!)(T:zjd aR! X.w X.K tg J fp it tn)(bn:tn 0 s₂.heap)(f2:∀b∈fp,zbQ X ae H2 b) (go:∀(acc:Addr)(s₃ s₄:Shared),cB! H2 s₃->H2 acc=a!->zbQ X ae H2 acc->(∀b∈fp,b<acc)->acc≠nV!-> Inv (j9! X (acc::fp) H2) [] hS! H2 s₄->s₄.heap.get? acc=b! (r0! [])->tn 0 s₄.heap-> (∀{H':Hp}{o:Obj},(∀b∈fp,fJ! b)->∀b∈fp,zbQ (j9! X (acc::fp) H2) [(acc,o)] H' b)-> (∀{P:List (Addr×Obj)}{O':St}{H':Hp}{s':Shared}{af:List Value},Inv (j9! X (acc::fp) H2) P O' H' s'->fJ! acc->rD!=b! jT!->Inv (j9! X (acc::fp) H2) ([(acc,jT!)]++P) O' H' s')-> kk! (oy! X.w) X.A (.compLoop (fL! (gj! 0::gens)) 0 j5! (q! acc) (zkh X bt! nV!)) (RR (q! acc) nV!) s₄): lv! (newList []) (λacc s₃=>lv! (newFunctionEnv bt! X.env.globals (ou! aX! []) [] X.env.qual a! X! (b! aX!)) (λcK s₄=> kk! (oy! X.w) X.A (.compStart (fL! (gj! 0::gens)) 0 j5! acc {cK with scope:=relabel bt! aX!}) (RR acc cK.locals) s₄) E s₃) E lX!:=by
 refine _aE ?_;have d9 := I2.hok.fresh ah!;have fA := I2.fpOk ah! d9;generalize bO:s₂.heap.objs.size=acc at d9 fA ⊢;have I3:cB! H2 ({s₂ with heap:=s₂.heap.push {cls:=c1!,data:=oE! ([]:cR!)}}):=I2.kept (lI! _ e);have mV:eK! (s₂.heap.push {cls:=c1!,data:=oE! ([]:cR!)}) acc (r0! []):=by rw[<- bO];exact gN!
 have mW:d1! (s₂.heap.push {cls:=c1!,data:=oE! ([]:cR!)})=acc+1:=by rw[_aG,bO]
 have mX:bz! (s₂.heap.get? b=b! o->eK! (s₂.heap.push {cls:=c1!,data:=oE! ([]:cR!)}) b o):=lI! _ e;generalize dm:({s₂ with heap:=s₂.heap.push {cls:=c1!,data:=oE! ([]:cR!)}}:nF!)=s₃ at I3 ⊢;have g9:s₃.heap.get? acc=b! (r0! []):=by rw[<- dm];exact mV
 have cZ:nV!=acc+1:=by rw[<- dm];exact mW
 have hJ:bz! (s₂.heap.get? b=b! o->s₃.heap.get? b=b! o):=by rw[<- dm];exact mX
 have flt:∀b∈fp,b<acc:=ce! (by
  obtain⟨o,e,_⟩:=T.obj 0 _ bn b hb;rw[<- bO];exact cX!)
 have hR := ce! (_D (flt b hb));have mY := T.keep 0 _ _ bn (oZ! (hJ b o e));refine zd7 ?_;rw[uS];have I4:=zfe (s1:={s₃ with heap:=rx! (s₃.heap.push {cls:=jQ!,data:=lf! #[]})}) I3 aV aR aI aW (ce! (by
  rcases d2! hb with z | hb
  ·subst z;exact⟨by rw[cZ];exact _b7 _,d9,fA.2.1,fA.2.2.1,fA.2.2.2.1,fA.2.2.2.2.1⟩
  ·have q:=f2 b hb;exact⟨by rw[cZ];exact _aU (flt b hb),q.1,q.2.1,q.2.2.1,q.2.2.2.1,q.2.2.2.2.1⟩)) rfl rfl rfl;have k7:bz! (s₃.heap.get? b=b! o->eK! (rx! (s₃.heap.push {cls:=jQ!,data:=lf! #[]})) b o):=gr! (pushCells_keeps _ _ b o (_g _ e));generalize hs4:({s₃ with heap:=rx! (s₃.heap.push {cls:=jQ!,data:=lf! #[]})}:nF!)=s₄ at I4 ⊢;have hV:s₄.heap.get? acc=b! (r0! []):=by rw[<- hs4];exact k7 _ _ g9
 have gi:tn 0 s₄.heap:=T.keep 0 _ _ mY (oZ! (by rw[<- hs4];exact k7 b o e))
 have ff:acc≠nV!:=by rw[cZ];exact _D (_b7 _)
 have cL := ce! (I4.ok.exf b hb).2;have bE:∀{H':Hp}{o:Obj},(∀b∈fp,fJ! b)->∀b∈fp,zbQ (j9! X (acc::fp) H2) [(acc,o)] H' b:=λ{H' o} hn b hb=> ⟨hn b hb,_D (by show b<nV!;rw[cZ];exact _aU (flt b hb)),λhf=>I4.ok.exfs b (_H _ hb) hf,w! (_H _ hb),cL b (_H _ hb),bo! (by
   have e:p=(acc,o):=by simpa[yb] using hp
   rw[e];exact _bM (hR b hb))⟩;have hX:∀(af:List Value)(v:Option Value),(jT!).data≠.cell v:=λaf v z=>by
  have z' := z;cases z'
 have dL:∀{P:List (Addr×Obj)}{O':St}{H':Hp}{s':Shared}{af:List Value},Inv (j9! X (acc::fp) H2) P O' H' s'->fJ! acc->rD!=b! jT!->Inv (j9! X (acc::fp) H2) ([(acc,jT!)]++P) O' H' s':=λ{P O' H' s' af} J' n' e'=> J'.pins_of (bo! (by
   rcases mX! hp with hp | hp
   ·have e:p=(acc,jT!):=by simpa using hp
    subst e;exact⟨e',n',ff,λhf=>I4.ok.exfs acc _ak hf,hX af⟩
   ·exact J'.pin p (_N _ hp)))
 have loop:=go acc s₃ s₄ I3 d9 fA flt ff I4 hV gi bE dL;exact codeAny_compStart_list loop (T.self _ 0 _ _ _ gi loop)
theorem z37{O:St} {RR:dG!->lU!->Result->eh!} (hc:bY!)(hg:lF! cm! tg g)(ht:lC! cm! aC ti)(he:∀ex s H,PE cm! az te) (aV:jU!)(aR:∀y∈scope.names,jB! y.1=b! y.2) (aI:∀y∈scope.names,y.2=bK!->X.env.kindOf y.1=dk!\/X.env.kindOf y.1=b! bK!)(aW:kd! N' mp=c!) (I2:cB! H2 lX!)(T:zjd aR! X.w X.K tg J fp it tn)(bn:tn 0 s₂.heap)(f2:∀b∈fp,zbQ X ae H2 b) (W:Nat->Nat->aU!->ck!)(w0:∃m,W 0 m [] H2) (turn:∀i m ys H,W i m ys H-> (J.stop i H/\ov!/\∀p,gl!->Q b9! (fo! ib!))\/ (J.go i H/\∀x H',J.yld i H x H'->g x hS! H' λO2 H2=>(O2.length=r! hS!/\∀(i:Nat) v,aj! hS! bx!->aj! O2 bx!)/\ ti O2 H2 λb H3=>aG! b (te O2 H3 λy H4=>ov!/\∃m',m'<m/\W (i+1) m' (ys++[y]) H4) (∃m',m'<m/\W (i+1) m' ys H3))) (mZ:∀acc C s',z51 X ae O C Q acc s'->RR acc C (.ok .next) s'): lv! (newList []) (λacc s₃=>lv! (newFunctionEnv bt! X.env.globals (ou! aX! []) [] X.env.qual a! X! (b! aX!)) (λcK s₄=> kk! (oy! X.w) X.A (.compStart (fL! [gj! 0]) 0 j5! acc {cK with scope:=relabel bt! aX!}) (RR acc cK.locals) s₄) E s₃) E lX!:=by
 refine zj5 aV aR aI aW I2 T bn f2 λacc s₃ s₄ I3 d9 fA flt ff I4 hV gi bE fj=>?_;have hR := ce! (_D (flt b hb));have cL := ce! (I4.ok.exf b hb).2;have dL:∀{O':St}{H':Hp}{s':Shared}{af:List Value},Inv (j9! X (acc::fp) H2) [] O' H' s'->fJ! acc->rD!=b! jT!->Inv (j9! X (acc::fp) H2) [(acc,jT!)] O' H' s':=fj;obtain⟨m0,w0⟩:=w0;have loop:kk! (oy! X.w) X.A (.compLoop (fL! [gj! 0]) 0 j5! (q! acc) (zkh X bt! nV!)) (RR (q! acc) nV!) s₄:=by
  refine zaD (λn s'=>∃i ys af H',Inv (j9! X (acc::fp) H2) [] hS! H' s'/\tn i gs!/\(∀b∈fp,fJ! b)/\fJ! acc/\rD!=b! jT!/\hr! ys/\W i n ys H') ?_ m0 ⟨0,[],[],H2,I4,gi,ce! (f2 b hb).1,d9,hV,cn!,w0⟩;rintro n s5 ⟨i,ys,af,H5,I5,k8,n5,hY,m3,gn,w5⟩;have k9:=dL I5 hY m3;rcases turn i n ys H5 w5 with⟨stop,hz,q⟩ | ⟨go,step⟩
  ·refine _Z (T.done (j9! X (acc::fp) H2) rfl rfl rfl hc i _ s5 _ H5 iE! k9 (bE n5) k8 stop) (λr s6 ⟨hr,I6⟩=>?_) λ_ _ z=>z;subst hr;have m4:=(I6.pin (acc,jT!) (by simp)).1;have un := I6.base;have I7 := I3.call' (I6.os) un I6.hok I6.bare (ce! (by
    rcases d2! hb with z | hb;·subst z;exact⟨fA.2.2.2.1,fA.2.1,fA.2.2.2.2.1,fA.2.2.2.2.2⟩
    ·exact⟨(f2 b hb).2.2.2.1,(f2 b hb).2.1,(f2 b hb).2.2.2.2.1,(f2 b hb).2.2.2.2.2⟩))
   have C7 := I3.fpOk ah! I6.free;refine mZ _ _ s6 ⟨q! acc,upd H5 acc ib!,I7.track ⟨hY,fA.2⟩ ?_,rfl,q acc hY,?_,?_,C7.2⟩;·exact⟨hz,af,_,gn,m4⟩
   ·obtain⟨m,hm,_⟩:=I6.loc;exact as! m hm
   ·rw[zJ (_bM ff)];exact I6.free
  ·refine _Z (T.item (j9! X (acc::fp) H2) rfl rfl rfl hc i _ s5 _ H5 iE! k9 (bE n5) k8 go) (λr s6 ⟨u,hr,h6⟩=>?_) λ_ _ z=>z;subst hr;refine _Z h6 (λ_ s7 ⟨x,H7,I7,r7,y7,ia,n7⟩=>?_) λ_ _ z=>z;have m5:=I7.pinned (bE n7) (T.obj _ _ ia);refine _Z (hg _ _ _ _ s7 hS! H7 x u _ m5 r7 (step x H7 y7)) (λ_ s8 ⟨O8,H8,I8,⟨kl,kv⟩,q8⟩=>?_) λ_ _ z=>z;refine _Z (ht _ _ _ _ s8 O8 H8 _ I8 q8) (λb s9 ⟨H9,I9,q9⟩=>?_) λ_ _ z=>z;have fk:∀{O':St}{H':Hp}{s':Shared},Inv (j9! X (acc::fp) H2) ([(acc,jT!)]++zbz fp s7.heap) O' H' s'->(∀b∈fp,fJ! b)/\fJ! acc/\rD!=b! jT!/\tn (i+1) gs!/\∀b∈fp,∀o,s7.heap.get? b=b! o->sg!=b! o:=λ{O' H' s'} J'=>by
    have z:=J'.pin (acc,jT!) (by simp[yb]);have zz:∀b∈fp,∀o,s7.heap.get? b=b! o->sg!=b! o/\fJ! b:=oZ! (by
     have y:=J'.pin (b,o) (_N _ (_N _ (jO hb e)));exact as! y.1 y.2.1)
    refine⟨ce! ?_,z.2.1,z.1,T.keep _ _ _ ia (oZ! (zz b hb o e).1),oZ! (zz b hb o e).1⟩;obtain⟨o,e,_⟩:=T.obj _ _ ia b hb;exact (zz b hb o e).2
   cases b with
   | false=>
    rw[_q (by decide)]at q9 ⊢;obtain⟨m',lt,w9⟩:=q9;obtain⟨z1,z2,z3,z4,_⟩:=fk I9;exact⟨m',lt,i+1,ys,af,H9,(I9.pins_of (bo! (cN! hp (by simp)))).weak kl.symm kv,z4,z1,z2,z3,gn,w9⟩ | true=>
    rw[gC!]at q9 ⊢;refine _Z (he _ _ _ _ s9 O8 H9 _ I9 q9) (λyv m6 ⟨y,m7,lg,m8,hz,m',lt,na⟩=>?_) λ_ _ z=>z;obtain⟨z1,z2,z3,z4,_⟩:=fk lg;have zl:iw!<=aW!:=by rw[_s,<- gn.length];exact hz
    refine append_at z3 λgq sb ib=>?_;have ic:=(lg.pins_of (pins':=[]) (bo! (cN! hp (by simp)))).weak kl.symm kv;have nc := ic.turned (t':=m6.toks) (ki! (bL! (sb.2 b hb) e)) z2 ff (w! _ak) (cL acc _ak) (bo! (cN! hp (by simp[yb])));exact⟨m',lt,i+1,ys++[y],af++[yv],m7,nc,T.keep _ _ _ z4 (oZ! (bL! (sb.2 b (hR b hb)) e)),z1,z2,ib.trans (_aK some (LCg.lst_snoc af yv)),gn.append (ep! m8 cn!),na⟩
 exact loop
section
variable {X:Cx}{tg iter az:Expr}{aC:aC!}{scope:Scope}{pos aF py:Pos}{wi:TI}{g:TG}{ti:TT}{te:TE}{N':al!}{mp:eC!}
theorem z1K{O:St} (I:K!)(f:zbQ X ae H C)(sb:Heap.SameBut C G! h'):lt! ({s with heap:=h'}):= I.turned (ki! (bL! (sb.2 b hb) e)) f.1 f.2.1 f.2.2.2.1 f.2.2.2.2.1 f.2.2.2.2.2
theorem zgH(N':al!)(mp:eC!)(hc:bY!)(hi:PI X tg hV! wi)(hg:lF! cm! tg g)(ht:lC! cm! aC ti)(he:∀ex s H,PE cm! az te) (aV:jU!)(aR:∀y∈scope.names,jB! y.1=b! y.2) (aI:∀y∈scope.names,y.2=bK!->X.env.kindOf y.1=dk!\/X.env.kindOf y.1=b! bK!)(aW:kd! N' mp=c!) (hs:kT! (kL! x=kS!)):U! (fL! [gj! 0]) (zkf wi mp g ti te):=by
 refine it! (_bJ rfl hs (kC λy hy hf=>I.ok.has _ (aI y hy hf)) aV (λy hy hl=>by rw[aR y hy,hl]) (thn (hi ae s O H _ I h) λxv s₁ h₁=>thn h₁ λeP s₂ h₂=>?_));obtain⟨it,fp,tn,J,H2,e,I2,T,bn,f2,W,w0,turn⟩:=h₂;subst e;refine z37 hc hg ht he aV aR aI aW I2 T bn f2 W w0 turn ?_;rintro acc C s' ⟨v,Hf,I3,r,q,⟨m,hm⟩,f⟩;exact⟨m,hm,λh' sb=>⟨v,Hf,z1K I3 f sb,r,q⟩⟩
theorem zf2(N':al!)(mp:eC!)(hN:X.N.Nodup)(hy:gd! y)(cM:h0! y) (hc:bY!)(hi:PI X tg hV! wi)(hg:lF! cm! tg g)(ht:lC! cm! aC ti)(he:∀ex s H,PE cm! az te) (aV:jU!)(aR:∀y∈scope.names,jB! y.1=b! y.2) (aI:∀y∈scope.names,y.2=bK!->X.env.kindOf y.1=dk!\/X.env.kindOf y.1=b! bK!)(aW:kd! N' mp=c!) (hs:kT! (kL! x=kS!)) (cN:y! (md! (fL! [gj! 0]) (b! gm!) qb!=rf!)) (hf:h2! (g8! y\/fB! y)): PS X (.Assign [gm!] (fL! [gj! 0]) aF) (zro (zkf wi mp g ti te) (zew i)):=by
 intro ae s O H D I h;rw[exec_Assign_Name_used _ _ _ _ cN];refine _a (_cb (_a (_a (_Z (_bJ rfl hs (kC λy hy hf=>I.ok.has _ (aI y hy hf)) aV (λy hy hl=>by rw[aR y hy,hl]) (thn (hi ae s O H _ I h) λxv s₁ h₁=>thn h₁ λeP s₂ h₂=>?_)) (λ_ s' hq=>_m (_m hq)) λ_ _ e=>e))));obtain⟨it,fp,tn,J,H2,e,I2,T,bn,f2,W,w0,turn⟩:=h₂;subst e;refine z37 (Q:=λv H'=>D.nx (lK! i) H') hc hg ht he aV aR aI aW I2 T bn f2 W w0 turn ?_;rintro acc C s' ⟨v,Hf,I3,r,q,⟨m,hm⟩,f⟩;exact _cP (z6N I3 hN hy cM r (λeR I4 ⟨a,sb,ha⟩=>⟨m,hm.sameBut sb (by
  rcases ha with z | z;·rw[z];exact f.2.1
  ·exact _bM (f.2.2.2.2.1 y a z)),λh' ie=>⟨_,Hf,z1K I4 f ie,q⟩⟩) hf)
end
structure M2(X:Cx)(o:Expr)(m:Str)(ap:Pos)(e f:Expr)(ak:Pos):j! where
 base:lw! o m gg!=gg!
 few:(hd! (hC! ak [e,f]) (! x.1)&&hd! (no! ak []) (iq! x.1) && bi! (r! ([e,f]:aC!)+r! ([]:gz!)+(nd! ([]:gz!) 0 1)<30))=c!
 line:pH!=c!
 trees:hC! ak [e,f]=[dF!,dN! f]
end L2
set_option maxHeartbeats 4000000
namespace Dd
open L2
theorem zdD(xs:aC!)(k:Nat)(p:Pos)(es:aC!)(env:Env):f4! (hv! xs k p::es)=(t!,jZ! (hv! xs k p))::f4! es:=rfl
theorem zjM(xs:aC!)(p:Pos)(es:aC!)(env:Env):f4! (.List xs p::es)=(t!,jZ! (.List xs p))::f4! es:=rfl
theorem xL(f:Expr)(xs:aC!)(ks:gz!)(p:Pos)(es:aC!)(env:Env):f4! (e6! f xs ks p::es)=(t!,jZ! (e6! f xs ks p))::f4! es:=rfl
theorem zj9(a:Expr)(o:Operator)(b:Expr)(p:Pos)(es:aC!)(env:Env):f4! (.BinOp a o b p::es)=(t!,jZ! (.BinOp a o b p))::f4! es:=rfl
theorem z0T(a b:Expr)(p:Pos)(es:aC!)(env:Env):f4! (rl! b p::es)=(t!,jZ! (rl! b p))::f4! es:=rfl
theorem zH(a:Expr)(g:dZ! Comprehension)(sc:Scope)(p:Pos)(es:aC!)(env:Env):f4! (.ListComp a g sc p::es)=(t!,jZ! (.ListComp a g sc p))::f4! es:=rfl
theorem z4X(a:Expr)(o:dZ! CmpOp)(b:aC!)(p:Pos)(es:aC!)(env:Env):f4! (.Compare a o b p::es)=(t!,jZ! (.Compare a o b p))::f4! es:=rfl
theorem z8p(c:Const)(j:Nat)(p:Pos)(es:aC!)(env:Env):f4! (jm! c p::es)=(t!,jZ! (jm! c p))::f4! es:=rfl
theorem zu(x:Str)(p:Pos)(es:aC!)(env:Env):f4! (ff! p::es)=(t!,jZ! (ff! p))::f4! es:=rfl
theorem zna(o:UnaryOp)(a:Expr)(p:Pos)(es:aC!)(env:Env):f4! (.UnaryOp o a p::es)=(t!,jZ! (.UnaryOp o a p))::f4! es:=rfl
inductive D where | non | bl (b:Bool) | int (i:Int) | str (x:Str) | tup (xs:C!) | lst (xs:C!) | dct | loc (l:Nat) | dlo (l:Nat) | fn (x:Str) | exc (x:Str) | scr (xs:C!)
noncomputable abbrev Sto:=dZ! C!
noncomputable abbrev Ev:=l8! D
inductive R(α:cd!) where | ok (a:α)(s:Sto) | ex (c:Str)(s:Sto) | no
noncomputable def R.bind(r:R α)(k:α->fF! β):R β:=match r with
 | .ok a s=>k a s | .ex c s=>ec! | .no=>.no
@[simp] theorem R.bind_ok{α β:cd!}(a:α)(s:Sto)(k:α->fF! β):z! (et! a s) k=k a s:=V!
noncomputable abbrev Rb:=@R.bind_ok
@[simp] theorem R.bind_ex(c:Str)(s:Sto)(k:α->fF! β):z! (R.ex c s:R α) k=ec!:=V!
@[simp] theorem R.bind_no(k:α->fF! β):z! (R.no:R α) k=.no:=V!
noncomputable def D.flat:eH! D
 | .tup xs=>flats xs | .lst xs=>flats xs | .scr xs=>flats xs | .loc _=>false | .dlo _=>false | _=>true
where flats:eH! C!
 | []=>true | x::xs=>x.flat&&flats xs
theorem flN:c0! []:=V!
theorem flC:r1! (x::xs)=(x.flat&&r1! xs):=V!
noncomputable def zkX(C a:Addr):HO:=.ext λh=>∃o vs,cx! a/\fV!=aT!/\hU!=eq! vs
structure Gm where
 m:Str->aN!
 K:W.Frag
noncomputable abbrev gm(X:Cx):Gm:=as! e4! X.K
def IsL(H:Hp)(a:Addr):j!:=∃vs,cb! ci!
def IsC(H:Hp)(a:Addr):j!:=(∃ah,cb! kX!)\/(∃o ah,cb! (dS! kX!))\/(∃ah,a4! ah/\cb! gE!)\/∃o ah,cb! (dS! gE!)
def Own(H:Hp)(Y:bk!)(b:Addr):j!:=∃a∈Y,∃ah k,cb! gE!/\(k,mz!)∈ah
theorem IsL.notC(h:IsL H a)(h':IsC H a):False:=by obtain⟨_,e⟩:=h;rcases h' with⟨_,e'⟩ | ⟨_,_,e'⟩ | ⟨_,_,e'⟩ | ⟨_,_,e'⟩<;>rw[e]at e'<;>cases e'
noncomputable def zuT:Key->D
 | .inl i=>ac! | .inr x=>bQ!
noncomputable def zuW:V->fg!
 | .int i=>e! i | .bl b=>b! ho! | _=>none
noncomputable def ztl:C!->f3! (dZ! Key) V->j!
 | [],ah=>ah=[] | d::ds,ah=>∃k v x r,ah=(k,v)::r/\zuW v=dR!/\d=p! [p! (k.map zuT),x]/\ztl ds r
def KL(K:W.Frag)(a:Addr)(xs:aU!):j!:=∃(o:Obj)(af:Array Value)(n:Nat),oC!=b! o/\fV!=c1!/\o.dict=a!/\hU!=.seq af n/\af.size<=aW!/\xn xs oT!
section
variable (mg:Gm)
mutual
noncomputable def Den(H:Hp)(Y:bk!):D->V->j!
 | .non,v=>v=at! | .bl b,v=>v=ho! | .int i,v=>v=ac! | .str x,v=>v=bQ! | .tup ds,v=>∃a vs,v=ad!/\cb! (p! vs)/\yj H Y ds vs | .lst ds,v=>∃a o vs,v=ad!/\cb! (dS! ci!)/\yj H Y ds vs | .dct,v=>∃a,v=ad!/\cb! (.dK []) | .loc l,v=>∃a,v=ad!/\E! Y l a/\IsL H a | .dlo l,v=>∃a,v=ad!/\E! Y l a/\IsC H a | .fn x,v=>∃a,v=ad!/\mg.m x=a3! a | .exc x,v=>∃a C,v=ad!/\mg.m x=a3! C/\cb! (zkX C a) | .scr ds,v=>∃a vs,v=ad!/\((∃o,cb! (dS! ci!))\/KL m5! a vs)/\yj H Y ds vs
noncomputable def yj(H:Hp)(Y:bk!):C!->aU!->j!
 | [],vs=>vs=[] | d::ds,vs=>∃v r,vs=v::r/\Den H Y d v/\yj H Y ds r
end
noncomputable def zff(H:Hp)(Y:bk!):C!->f3! Key V->j!
 | [],ah=>ah=[] | d::ds,ah=>∃k ys b vs r,ah=(oV! k,mz!)::r/\pD! ys/\((d=p! [d! k,ib!]/\cI! ci!)\/(d=p! [d! k,ib!,at!]/\∃o,cI! (dS! ci!)))/\zff H Y ds r
def zpd(ys:C!):j!:=∀d∈ys,∃k zs,d=p! [d! k,ab! zs,at!]
def jP(H:Hp)(Y:bk!)(xs:C!)(a:Addr):j!:=(∃vs,cb! ci!/\he!)\/(∃ah,cb! kX!/\ztl xs ah)\/(∃o ah ys,cb! (dS! kX!)/\xs=at!::ys/\ztl ys ah)\/(∃ah,a4! ah/\cb! gE!/\zff mg H Y xs ah)\/∃o ah ys,cb! (dS! gE!)/\xs=at!::ys/\zff mg H Y ys ah/\zpd ys/\a4! ah
structure Rep(H:Hp)(Y:bk!)(s:Sto):j! where
 len:qc!=cf!
 nd:Y.Nodup
 cell:∀(l:Nat)(xs:List D),E! s l xs->∃a,E! Y l a/\jP mg H Y xs a
 flat:∀xs∈s,c0! xs
 own:∀b,Own H Y b->b∉Y
 uq:∀a∈Y,∀a'∈Y,∀ah br (i j:Nat) k k' b,cb! gE!->H a'=b! (.dK br)->aj! ah (k,mz!)->E! br j (k',mz!)->a=a'/\i=j
structure vj(H:Hp)(Y:bk!)(H':Hp)(Y':bk!)(s':Sto):j! where
 rep:Rep mg H' Y' s'
 pre:Y <+: Y'
 keep:bz! (cI! o->b∉Y->(Own H Y b->∀vs,o≠ci!)->H' b=b! o)
 new:∀a∈Y',a∉Y->H a=a!
 mt:∀a∈Y,(IsL H a/\IsL H' a)\/(IsC H a/\IsC H' a/\∀o u,cb! (dS! u)->H' a=b! (dS! u))
 dom:∀b,fJ! b->eN!
 ow:∀b,Own H' Y' b->Own H Y b\/eN!
end
section
variable {mg:Gm}{H H' H1 H2:Hp}{Y Y' Y1 Y2:bk!}{s s' s1 s2:Sto}
theorem jP.kind(h:jP mg H Y xs a):IsL H a\/IsC H a:=m6! (λ⟨vs,e,_⟩=>di! vs) (λh=>m6! (λ⟨k,e,_⟩=>di! k) (λh=>m6! (λ⟨o,k,_,e,_⟩=>cj! k e) (λh=>m6! (λ⟨k,n,e,_⟩=>aQ! k n e) (λ⟨o,k,_,e,_⟩=>cj! k e))))
theorem Rep.mt(r:cJ!):∀a∈Y,IsL H a\/IsC H a:=λa ha=>by
 obtain⟨l,hl,e⟩:=gu! ha;have eM:l<cf!:=by rw[<- r.len];exact hl
 obtain⟨b,e1,c⟩:=qd! l (s[l]) (_b eM);rw[_b hl]at e1;rw[<- e,(_I e1)];exact c.kind
theorem Rep.at_(r:cJ!){l:Nat} (h:E! s l xs)(ha:E! Y l a)(k:IsL H a):∃vs,cb! ci!/\he!:=by
 obtain⟨b,e1,c⟩:=qd! l xs h;rw[ha]at e1;cases e1;rcases c with c | c;·exact c
 ·exact bV! (k.notC (c.imp (λ⟨k,e,_⟩=>di! k) λh=>m6! (λ⟨o,k,_,e,_⟩=>cj! k e) (λh=>m6! (λ⟨k,n,e,_⟩=>aQ! k n e) (λ⟨o,k,_,e,_⟩=>cj! k e))))
theorem vj.refl(r:cJ!):vj mg H Y H Y s:=⟨r,_dh _,λ_ _ h _ _=>h,λa h1 h2=>cN! h1 h2,λa ha=>(r.mt a ha).imp (λh=>as! h h) λh=>⟨h,h,λ_ _ q=>q⟩,λ_ h=>h,λ_ h=>w! h⟩
theorem vj.trans(a:vj mg H Y H1 Y1 s1)(b:vj mg H1 Y1 H2 Y2 s2):vj mg H Y H2 Y2 s2:=by
 refine⟨b.rep,a.pre.trans b.pre,λc o h n g=>?_,λc h1 h2=>?_,λc hc=>?_,λc h=>a.dom c (b.dom c h),λc h=>(b.ow c h).elim (a.ow c) λz=>R! (a.dom c z)⟩
 ·refine b.keep c o (a.keep c o h n g) (λz=>?_) λz=>?_;·rw[a.new c z n]at h;cases h
  ·rcases a.ow c z with z | z;·exact g z
   ·rw[z]at h;cases h
 ·by_cases h3:c∈Y1;·exact a.new c h3 h2
  ·exact a.dom c (b.new c h1 h3)
 ·have li := a.pre.subset hc;rcases a.mt c hc with⟨k1,k2⟩ | ⟨k1,k2,k3⟩
  ·rcases b.mt c li with⟨_,q⟩ | ⟨q,_,_⟩;·exact w! ⟨k1,q⟩
   ·exact bV! (k2.notC q)
  ·rcases b.mt c li with⟨q,_⟩ | ⟨_,q,q3⟩;·exact bV! (q.notC k2)
   ·exact R! ⟨k1,q,λo u z=>q3 o u (k3 o u z)⟩
theorem vj.stay(stp:vj mg H Y H' Y' s') (h:cI! o)(hn:∀vs,o≠ci!)(fm:∀ah,o≠kX!:=by intro vs z;cases z)(ig:∀ah,a4! ah->o≠gE!:=by intro ah g z;cases z<;>exact g rfl):H' b=b! o:=by
 by_cases hb:b∈Y
 ·rcases stp.mt b hb with⟨⟨vs,e⟩,_⟩ | ⟨⟨vs,e⟩ | ⟨p,vs,e⟩ | ⟨vs,g,e⟩ | ⟨p,vs,e⟩,_,q⟩
  ·rw[h]at e;exact cN! (_I e) (hn vs)
  ·rw[h]at e;exact cN! (_I e) (fm vs)
  ·rw[h]at e;cases e;exact q _ _ h
  ·rw[h]at e;exact cN! (_I e) (ig vs g)
  ·rw[h]at e;cases e;exact q _ _ h
 ·exact stp.keep b o h hb λ_=>hn
mutual
theorem Den.mono(stp:vj mg H Y H' Y' s'):∀{d:D}{v:V},fN!->qX! H' Y' d v
 | .non,_,h=>h | .bl _,_,h=>h | .int _,_,h=>h | .str _,_,h=>h | .tup ds,v,h=>by
  change ∃_,_;obtain⟨a,vs,e,h1,h2⟩:=h;exact⟨a,vs,e,stp.stay h1 (by intro vs z;cases z),yj.mono stp h2⟩ | .lst ds,v,h=>by
  change ∃_,_;obtain⟨a,o,vs,e,h1,h2⟩:=h;exact⟨a,o,vs,e,stp.stay h1 (by intro vs z;cases z),yj.mono stp h2⟩ | .dct,v,h=>by
  change ∃_,_;obtain⟨a,e,h1⟩:=h;exact⟨a,e,stp.stay h1 (by intro vs z;cases z)⟩ | .loc l,v,h=>by
  change ∃_,_;obtain⟨a,e,h1,k⟩:=h;obtain⟨t,ht⟩:=stp.pre;refine⟨a,e,?_,?_⟩
  ·rw[<- ht,_G (cE! h1)];exact h1
  ·rcases stp.mt a (_u h1) with⟨_,q⟩ | ⟨q,_,_⟩;·exact q
   ·exact bV! (k.notC q) | .dlo l,v,h=>by
  change ∃_,_;obtain⟨a,e,h1,k⟩:=h;obtain⟨t,ht⟩:=stp.pre;refine⟨a,e,?_,?_⟩
  ·rw[<- ht,_G (cE! h1)];exact h1
  ·rcases stp.mt a (_u h1) with⟨q,_⟩ | ⟨_,q,_⟩;·exact bV! (q.notC k)
   ·exact q | .fn _,_,h=>h | .exc x,v,h=>by
  change ∃_,_;obtain⟨a,C,e,h1,h2⟩:=h;exact⟨a,C,e,h1,stp.stay h2 (by intro vs z;cases z)⟩ | .scr ds,v,h=>by
  change ∃_,_;obtain⟨a,vs,e,h1,h2⟩:=h;exact⟨a,vs,e,h1.imp (λ⟨o,h1⟩=>⟨o,stp.stay h1 (by intro vs z;cases z)⟩) id,yj.mono stp h2⟩
theorem yj.mono(stp:vj mg H Y H' Y' s'):rL! iO! (f9! H' Y' ds vs)
 | [],_,h=>h | d::ds,vs,h=>by
  change ∃_,_;obtain⟨v,r,e,h1,h2⟩:=h;exact⟨v,r,e,Den.mono stp h1,yj.mono stp h2⟩
end
theorem yj.length:rL! iO! (dq!=qe!)
 | [],_,h=>by rw[h];rfl | d::ds,vs,h=>by
  obtain⟨v,r,rfl,_,h2⟩:=h;simp[yj.length h2]
theorem yj.get:∀{ds:List D}{vs:List V}{i:Nat}{d:D},iO!->aj! ds d->∃v,aj! vs v/\fN!
 | [],_,_,_,_,e=>by cases e | d::ds,vs,0,d',h,e=>by
  obtain⟨v,r,rfl,h1,_⟩:=h;simp at e;subst e;exact⟨v,by rfl,h1⟩ | d::ds,vs,i+1,d',h,e=>by
  obtain⟨v,r,rfl,_,h2⟩:=h;obtain⟨u,h3,h4⟩:=yj.get h2 (by exact e);exact⟨u,by exact h3,h4⟩
theorem yj.append:∀{ds es:List D}{vs us:List V},iO!->f9! H Y es us->f9! H Y (ds++es) (vs++us)
 | [],_,_,_,h,h'=>by subst h;exact h' | d::ds,_,_,_,h,h'=>by
  obtain⟨v,r,rfl,h1,h2⟩:=h;exact gB! v _ h1 (yj.append h2 h')
theorem yj.nil:f9! H Y [] []:=by rfl
theorem yj.cons{d:D} {ds:C!} {v:V} {vs:aU!} (h:fN!) (h':iO!):f9! H Y (d::ds) (v::vs):=gB! v vs h h'
theorem yj.one(h:fN!):f9! H Y [d] [v]:=ep! h cn!
theorem yj.take:∀{ds:List D}{vs:List V}(n:Nat),iO!->f9! H Y (ds.take n) (vs.take n)
 | ds,vs,0,h=>by rfl | [],vs,n+1,h=>by subst h;rfl | d::ds,vs,n+1,h=>by
  obtain⟨v,r,rfl,h1,h2⟩:=h;exact ep! h1 (yj.take n h2)
theorem yj.drop:∀{ds:List D}{vs:List V}(n:Nat),iO!->f9! H Y (ds.drop n) (vs.drop n)
 | ds,vs,0,h=>by exact h | [],vs,n+1,h=>by subst h;rfl | d::ds,vs,n+1,h=>by
  obtain⟨v,r,rfl,h1,h2⟩:=h;exact yj.drop n h2
theorem yj.set:∀{ds:List D}{vs:List V}{d:D}{v:V}(n:Nat),iO!->fN!->f9! H Y (ds.set n d) (vs.set n v)
 | [],vs,_,_,n,h,_=>by subst h;rfl | d::ds,vs,_,_,0,h,h'=>by
  obtain⟨v,r,rfl,h1,h2⟩:=h;exact o3! h' h2 | d::ds,vs,_,_,n+1,h,h'=>by
  obtain⟨v,r,rfl,h1,h2⟩:=h;exact o3! h1 (yj.set n h2 h')
mutual
theorem Den.flatten(k:bz! (cI! o->(∀vs,o≠ci!)->(∀ah,o≠kX!)->(∀ah,a4! ah->o≠gE!)->H' b=b! o)):∀{d:D}{v:V},mw!->fN!->qX! H' Y' d v
 | .non,_,_,h=>h | .bl _,_,_,h=>h | .int _,_,_,h=>h | .str _,_,_,h=>h | .tup ds,v,f,h=>by
  change ∃_,_;obtain⟨a,vs,e,h1,h2⟩:=h;exact⟨a,vs,e,k a _ h1 (by intro vs z;cases z) (by intro vs z;cases z) (by intro vs g z;cases z<;>exact g rfl),yj.flatten k f h2⟩ | .lst ds,v,f,h=>by
  change ∃_,_;obtain⟨a,o,vs,e,h1,h2⟩:=h;exact⟨a,o,vs,e,k a _ h1 (by intro vs z;cases z) (by intro vs z;cases z) (by intro vs g z;cases z<;>exact g rfl),yj.flatten k f h2⟩ | .dct,v,_,h=>by
  change ∃_,_;obtain⟨a,e,h1⟩:=h;exact⟨a,e,k a _ h1 (by intro vs z;cases z) (by intro vs z;cases z) (by intro vs g z;cases z<;>exact g rfl)⟩ | .loc l,v,f,h=>nomatch (f:t!=c!) | .dlo l,v,f,h=>nomatch (f:t!=c!) | .fn _,_,_,h=>h | .exc x,v,_,h=>by
  change ∃_,_;obtain⟨a,C,e,h1,h2⟩:=h;exact⟨a,C,e,h1,k a _ h2 (by intro vs z;cases z) (by intro vs z;cases z) (by intro vs g z;cases z<;>exact g rfl)⟩ | .scr ds,v,f,h=>by
  change ∃_,_;obtain⟨a,vs,e,h1,h2⟩:=h;exact⟨a,vs,e,h1.imp (λ⟨o,h1⟩=>⟨o,k a _ h1 (by intro vs z;cases z) (by intro vs z;cases z) (by intro vs g z;cases z<;>exact g rfl)⟩) id,yj.flatten k f h2⟩
theorem yj.flatten(k:bz! (cI! o->(∀vs,o≠ci!)->(∀ah,o≠kX!)->(∀ah,a4! ah->o≠gE!)->H' b=b! o)):rL! (c0! ds) (iO!->f9! H' Y' ds vs)
 | [],_,_,h=>h | d::ds,vs,f,h=>by
  change ∃_,_;simp only[flC,flN,_Q]at f;obtain⟨v,r,e,h1,h2⟩:=h;exact⟨v,r,e,Den.flatten k f.1 h1,yj.flatten k f.2 h2⟩
end
end
def okR{α β:cd!}(mg:Gm)(E:XK)(H:Hp)(Y:bk!)(Dn:Hp->bk!->α->β->j!)(r:R α)(Q:β->ck!):j!:=match r with
 | .ok a s'=>∀b H' Y',vj mg H Y H' Y' s'->Dn H' Y' a b->Q b H' | .ex c s'=>∀H' Y' C,vj mg H Y H' Y' s'->mg.m c=a3! C->E aT! a! H' | .no=>False
section
variable {α β α2 β2:cd!}{mg:Gm}{E:XK}{H H' H1 H2:Hp}{Y Y' Y1 Y2:bk!}{s s' s1 s2:Sto}{Dn:Hp->bk!->α->β->j!}{lm:Hp->bk!->α2->β2->j!}
theorem okR.rebase(h:dC! H Y Dn r Q)(stp:vj mg H Y H1 Y1 s1):dC! H1 Y1 Dn r Q:=by cases r with
 | ok a s'=>exact λb H' Y' cn=>h b H' Y' (stp.trans cn) | ex c s'=>exact λH' Y' C cn=>h H' Y' C (stp.trans cn) | no=>exact h
theorem okR.bind(h:dC! H Y lm (r.bind k) Q): dC! H Y Dn r (λb H1=>∃Y1 s1 a,vj mg H Y H1 Y1 s1/\Dn H1 Y1 a b/\dC! H1 Y1 lm (k a s1) Q):=by cases r with
 | ok a s'=>exact λb H' Y' stp dn=>⟨Y',s',a,stp,dn,okR.rebase h stp⟩ | ex c s'=>exact h | no=>exact h
theorem okR.imp(h:dC! H Y Dn r Q)(i:∀b H',Q b H'->Q' b H'):dC! H Y Dn r Q':=by cases r with
 | ok a s'=>exact λb H' Y' stp dn=>i b H' (h b H' Y' stp dn) | ex c s'=>exact h | no=>exact h
theorem okR.here(h:dC! H Y Dn (k! a) Q)(r:cJ!)(d:Dn H Y a b):Q b H:=h b H Y (.refl r) d
end
structure kH(mg:Gm)(H:Hp)(Y:bk!)(ρ:Ev)(O:L2.St):j! where
 len:nW!=O.length
 at_:∀(i:Nat)(d:D),aj! ρ i!->∃v,aj! O bx!/\fN!
theorem kH.mono(e:fr! H Y)(stp:vj mg H Y H' Y' s'):fr! H' Y':= ⟨e.len,λi d h=>let ⟨v,h1,h2⟩:=e.at_ i d h;⟨v,h1,h2.mono stp⟩⟩
theorem kH.set(e:fr! H Y)(h:fN!)(i:Nat):kH mg H Y (jq! i!) (lK! i):=by
 refine⟨by simp[e.len],λj d' hj=>?_⟩;by_cases aJ:i=j
 ·subst aJ;have hi:i<nW!:=by simpa using (cE! hj)
  rw[_ag hi]at hj;cases hj;exact⟨v,by rw[_ag (by rw[<- e.len];exact hi)],h⟩
 ·rw[_ab aJ]at hj ⊢;exact e.at_ j d' hj
abbrev FE:=Ev->bn!
abbrev FT:=Ev->fF! b5!
abbrev FA:=Ev->fF! C!
inductive Fl where | nx (ρ:Ev) | rt (d:D) | bk (ρ:Ev) | ct (ρ:Ev)
inductive FlV where | nx (O:L2.St) | rt (v:V) | bk (O:L2.St) | ct (O:L2.St)
abbrev FS:=Ev->fF! Fl
def FlD(mg:Gm)(H:Hp)(Y:bk!):Fl->FlV->j!
 | .nx ρ,.nx O=>fr! H Y | .rt d,.rt v=>fN! | .bk ρ,.bk O=>fr! H Y | .ct ρ,.ct O=>fr! H Y | _,_=>False
def zgY(D:zmR):FlV->ck!
 | .nx O,H=>D.nx O H | .rt v,H=>D.rt v H | .bk O,H=>D.bk O H | .ct O,H=>D.ct O H
def bD(_:Hp)(_:bk!)(a b:Bool):j!:=a=b
def tE(mg:Gm)(E:XK)(f:FE):TE:=gt! (∃Y ρ s,cJ!/\fr! H Y/\dC! H Y (Den mg) aK! Q)
def tT(mg:Gm)(E:XK)(f:FT):TT:=gt! (∃Y ρ s,cJ!/\fr! H Y/\dC! H Y bD aK! Q)
def tA(mg:Gm)(E:XK)(f:FA):TA:=gt! (∃Y ρ s,cJ!/\fr! H Y/\dC! H Y (yj mg) aK! Q)
def tS(mg:Gm)(E:XK)(f:FS):TS:=k9! (∃Y ρ s,cJ!/\fr! H Y/\dC! H Y (FlD mg) aK! (zgY D))
def RE(X:Cx)(E:XK)(e:Expr)(f:FE):j!:=U! e (tE B! E f)
def RT(X:Cx)(E:XK)(e:Expr)(f:FT):j!:=PT X e (tT B! E f)
def RA(X:Cx)(E:XK)(es:aC!)(f:FA):j!:=PA X es (tA B! E f)
def RS(X:Cx)(E:XK)(st:Stmt)(f:FS):j!:=PS X st (tS B! E f)
def RSs(X:Cx)(E:XK)(st:ng!)(f:FS):j!:=PSs X st (tS B! E f)
section
variable {X:Cx}{E:XK}{e a b c:Expr}{es:aC!}{pos:Pos}
theorem yk(h:U! e t)(i:∀O H Q,t' O H Q->t O H Q):U! e t':=λae s O H Q I q=>h ae s O H Q I (i O H Q q)
theorem zhG(h:PT X e t)(i:∀O H Q,t' O H Q->t O H Q):PT X e t':=λae s O H Q I q=>h ae s O H Q I (i O H Q q)
theorem zkM(h:PA X es t)(i:∀O H Q,t' O H Q->t O H Q):PA X es t':=λpos ae s O H Q I q=>h pos ae s O H Q I (i O H Q q)
theorem kL{st:Stmt} (h:PS X st t)(i:∀D O H,t' D O H->t D O H):PS X st t':=λae s O H D I q=>h ae s O H D I (i D O H q)
theorem zh7{st:ng!} (h:PSs X st t)(i:∀D O H,t' D O H->t D O H):PSs X st t':=λae s O H D I q=>h ae s O H D I (i D O H q)
theorem yI{k:Ev->D->fF! α} {Q:β->ck!} (r:cJ!)(en:fr! H Y) (h:dC! H Y Dn (jS! (k ρ)) Q)(K:V->ck!) (hK:∀v H1 Y1 s1 d,Rep mg H1 Y1 s1->fr! H1 Y1->qX! H1 Y1 d v->vj mg H Y H1 Y1 s1->dC! H1 Y1 Dn (k ρ d s1) Q->K v H1):tE mg E f O H K:= ⟨Y,ρ,s,r,en,c2! h (λv H1 ⟨Y1,s1,d,stp,dn,q⟩=>hK v H1 Y1 s1 d ds! h4! dn stp q)⟩
theorem z6f{k:Ev->b5!->fF! α} {Q:β->ck!} (r:cJ!)(en:fr! H Y) (h:dC! H Y Dn (jS! (k ρ)) Q)(K:b5!->ck!) (hK:∀v H1 Y1 s1,Rep mg H1 Y1 s1->fr! H1 Y1->vj mg H Y H1 Y1 s1->dC! H1 Y1 Dn (k ρ v s1) Q->K v H1):tT mg E f O H K:= ⟨Y,ρ,s,r,en,c2! h (λv H1 ⟨Y1,s1,d,stp,dn,q⟩=>hK v H1 Y1 s1 ds! h4! stp (by cases (dn);exact q))⟩
theorem qo{k:Ev->C!->fF! α} {Q:β->ck!} (r:cJ!)(en:fr! H Y) (h:dC! H Y Dn (jS! (k ρ)) Q)(K:aU!->ck!) (hK:∀v H1 Y1 s1 d,Rep mg H1 Y1 s1->fr! H1 Y1->f9! H1 Y1 d v->vj mg H Y H1 Y1 s1->dC! H1 Y1 Dn (k ρ d s1) Q->K v H1):tA mg E f O H K:= ⟨Y,ρ,s,r,en,c2! h (λv H1 ⟨Y1,s1,d,stp,dn,q⟩=>hK v H1 Y1 s1 d ds! h4! dn stp q)⟩
noncomputable def zd(i:Nat):FE:=eu! (match ρ[i]? with | some (some d)=>k! d | _=>.no)
theorem zc(i:Nat) (hN:y! (gd! x))(hv:sk! x:=by first | exact bv! | exact Or.inr bv! | exact Or.inr bH!)(hd:b8! (x==cz!)) (bA:b8! (x==l! "__classdict__")):W! mF! (zd i):= yk (zkY hN hv hd bA) λO H Q ⟨Y,ρ,s,r,en,h⟩=>by
  unfold zd at h;split at h
  ·rename_i d hd;obtain⟨v,h1,h2⟩:=en.at_ i d hd;exact⟨v,h1,eB! h2⟩
  ·exact h.elim
noncomputable def eC(d:D):FE:=λ_ s=>k! d
theorem zq: W! (jm! ac! pos) (O! i):=yk zlC λO H Q ⟨Y,ρ,s,r,en,h⟩=>g4! h (by rfl)
theorem za0: W! (jm! (.bool i) pos) (eC (.bl i)):=yk zsq λO H Q ⟨Y,ρ,s,r,en,h⟩=>g4! h (by rfl)
theorem zk1: W! (jm! X! pos) (eC at!):=yk zpD λO H Q ⟨Y,ρ,s,r,en,h⟩=>g4! h (by rfl)
theorem xF: W! (jm! (ax! i) pos) (bM! i):=yk zl4 λO H Q ⟨Y,ρ,s,r,en,h⟩=>g4! h (by rfl)
theorem zpF(hg:eL!)(hm:X.mg x=b! (bJ! i))(hd:b8! (x==cz!)):W! mF! (O! i):= yk (z6z hg hm (show wA ac! (bJ! i) from ch! t) hd) λO H Q ⟨Y,ρ,s,r,en,h⟩=>g4! h (by rfl)
def OpF(X:Cx)(E:XK)(r:R2)(op:D->D->bn!):j!:= ∀H Y s d1 d2 v1 v2 (Q:VK),Rep B! H Y s->Den B! H Y d1 v1->Den B! H Y d2 v2->iL! B! H Y j2! (op d1 d2 s) Q->r v1 v2 H Q
noncomputable def eOp(op:D->D->bn!)(fa fb:FE):FE:=bW! (gk! s) (λx s1=>z! fK! (λy s2=>op x y s2))
theorem zeh(ho:cK! op) (h:tE B! E (eOp op fa fb) O H Q):tOp r (tE B! E fa) (tE B! E fb) O H Q:=by
 obtain⟨Y,ρ,s,r',en,h⟩:=h;exact yI (k:=lg! (z! fK! (λy s2=>op x y s2))) r' en h _ λv H1 Y1 s1 d r1 av dn stp h1=>(yI (k:=fun ρ y s2=>op d y s2) r1 av h1 _ λv2 H2 Y2 s2 d2 r2 aY ax ng h2=>(ho H2 Y2 s2 d d2 v v2 Q r2 (rq! ng) ax h2))
theorem zup(ho:gf! op r/\cK! fo)(ha:fG! a)(hb:W! b fb):W! (.BinOp a op b pos) (eOp fo fa fb):= yk (zqN ho.1 ha hb) λO H Q h=>zeh ho.2 h
theorem zqP(ho:dE! op r/\cK! fo)(ha:fG! a)(hb:W! b fb)(hm:pz! b=t!):W! (.Compare a [op] [b] pos) (eOp fo fa fb):= yk (zhx ho.1 ha hb hm) λO H Q h=>zeh ho.2 h
end
end Dd
namespace L2
theorem Inv.freeze{O:L2.St} (I:K!)(h:cb! u)(e:da! a)(hu:∀xs,u≠aD!)(hf:∀o v,u≠dS! v)(ht:∀ps,u≠.tbl ps)(ho:∀y,u≠.own y): cB! (gP! (dS! u)) s:=by
 have ne:∀{b:Addr}{v:HO},cI! v->v≠u->b≠a:=λ{b v} hb hv z=>by subst z;rw[h]at hb;exact hv (_I hb).symm
 have stay:∀b v,jG aR! X.w H G! b v->jG aR! X.w (gP! (dS! u)) G! b v:=λb v q=> q.stay (λ_ _ _ q=>q) (λc q=>by rw[zJ (ne q (λz=>ho b i4!))];exact q) λc xs q=>by rw[zJ (ne q (λz=>hu xs i4!))];exact q
 exact I.step (ch:=[]) (ce! (cN! hb (by simp))) (λb o _ _ _ e _=>e) (λb o _ _ _ e _=>di! o.slots) (λb v _ _ n=>by rw[zJ (λz=>by subst z;rw[h]at n;cases n)];exact n) (λb o _ e=>di! o) (λb xs q=>by rw[zJ (ne q (λz=>hu xs i4!))];exact q) (λb o' v q=>by rw[zJ (ne q (λz=>hf o' v i4!))];exact q) (λb ps q=>⟨#[],by rw[zJ (ne q (λz=>ht ps i4!)),q];rfl⟩) (λ_ q=>q) (λb v q=>by
  by_cases hb:b=a
  ·subst hb;rw[yw]at q;cases q;exact⟨e,stay b u (nI! b u h)⟩
  ·rw[zJ hb]at q;exact stay b v (nI! b v q)) I.bare
def zjg(Q:VK):VK:=λv H=>∃a xs,v=ad!/\cb! cD!/\∀o,Q v (gP! (dS! cD!))
theorem EP.freeze(h:EP X ae O (zjg Q) u s):EP X ae O Q u s:=by
 obtain⟨v,H',I,r,a,xs,rfl,ha,q⟩:=h;obtain⟨af,n,rv,e,_⟩:=I.lst ha;exact⟨_,_,I.freeze ha e (by intro _ z;cases z) (by intro _ _ z;cases z) (by intro _ z;cases z) (by intro _ z;cases z),r,q _⟩
theorem OpR.freeze(h:OpR X f r):OpR X f (hw! (r x y H (zjg Q))):=λae s O H x y v u Q I rx ry q=>thn (h ae s O H x y v u _ I rx ry q) λ_ _ z=>z.freeze
theorem we.freeze(h:we X f r):we X f (λxs H Q=>r xs H (zjg Q)):=λae s O H xs us Q I rs q=>thn (h ae s O H xs us _ I rs q) λ_ _ z=>z.freeze
theorem PE.freeze(h:U! e t):U! e (kI! O H (zjg Q)):=λae s O H Q I q=>thn (h ae s O H _ I q) λ_ _ z=>z.freeze
theorem SlR.freeze(h:SlR X r):SlR X (p8! (r x lo hi H (zjg Q))):=λae s O H x v vl vu lo hi sl Q I rx hs pl pu q=>by
 obtain⟨T,id,h1,h2,h3⟩:=h ae s O H x v vl vu lo hi sl _ I rx hs pl pu q;exact⟨T,id,h1,h2,thn h3 λ_ _ z=>z.freeze⟩
section
variable {X:Cx}
theorem zlH:gf! .Add (hw! (∃l b xs zs,x=ei!/\y=q! b/\Rd H l cD!/\Rd H b (ab! zs)/\v!+zs.length<=aW!/\∀p,gl!->Q b9! (fo! (ab! (xs++zs))))):=by
 intro ae s O H x y v u Q I rx ry h;obtain⟨l,b,xs,zs,rfl,rfl,hH,hB,hz,q⟩:=h;cases rx;cases ry;obtain⟨z,af,n,r,e⟩:=hH.ok er!;obtain⟨z2,cX,n2,r2,e2⟩:=hB.ok er!;have hl:=r.length;have gu:=r2.length;refine PySem.P.add_list e e2 ?_ (by rw[_s,_s];lia);rw[(show e2!++cX.toArray=m0! (af++cX) from by simp)];exact⟨q! _,_,I.lnew (r.append r2) (by rw[_aZ];lia),rfl,q _ I.fresh⟩
end
section
variable {X:Cx}
theorem zjI:gf! .Add (hw! (∃a b ys,x=ad!/\y=q! b/\en! X.K a []/\en! X.K b ys/\Q (q! b) H)):=by
 intro ae s O H x y v u Q I rx ry h;obtain⟨a,b,ys,rfl,rfl,ha,hb,q⟩:=h;cases rx;cases ry;obtain⟨af,r1,p1,_⟩:=k8! ha;obtain⟨cX,r2,p2,_⟩:=k8! hb;cases r1;obtain⟨⟨cls,dd,data,sl⟩,ho,hc,n,hd⟩:=id p1;obtain⟨⟨gQ,ge,data2,cH⟩,dI,gR,n2,eT⟩:=id p2;subst hc hd gR eT;exact concat_meets (b1! ho) (b1! dI) _dd seq_tuple_add _bU _bQ (_bI _ _) (tuple_addW0 a b _ _ n n2 dd ge sl cH (by rfl)) ⟨ho,dI,bj! (q! b) H I q⟩
theorem znC:SlR X (p8! (∃a xs,x=ad!/\en! X.K a xs/\(hZ! 0 lo=0/\hZ! v! hi=v!)/\Q ad! H)):=by
 intro ae s O H x v vl vu lo hi sl Q I rx hs pl pu h;obtain⟨a,xs,rfl,hx,hw,q⟩:=h;cases rx;obtain⟨af,r,ht,hz⟩:=k8! hx;refine⟨dd!,_,_O.lookup,le!,?_⟩;obtain⟨os,ce,cW,cS⟩:=id hs;unfold getItem;try with_reducible refine _aR ?_
 refine _a (_cS le! (by decide) (_a (_ae le! _O (_at _O le! _co ?_ (_cD _ _)))));show fk! _ _ (Builtin.Tuple.tupleItemsOf ad! >>= _) _ _;refine _a (tupleItemsOf_ ht (_a (_dv ⟨os,ce,cW⟩ ?_)));refine _a (HT.kS hs pl pu ?_);rw[(show iw!=v! from by exact r.length.symm),hw.1,hw.2];show fk! _ _ (aG! (0==0&&1==1&&(v!-0)==v!) _ _) _ _;rw[_h (by simp)];exact _a (_a (_dv le! (_m (_a (_cy (_m (aA! _ (_m (bj! ad! H I q)))))))))
end
end L2
namespace Dd
open L2
section
variable {mg:Gm}{H H' H1 H2:Hp}{Y Y' Y1 Y2:bk!}{s s' s1 s2:Sto}
structure Kp(H H':Hp):j! where
 k:bz! (cI! o->(∀vs,o≠ci!)->(∀ah,o≠kX!)->(∀ah,a4! ah->o≠gE!)->H' b=b! o)
 l:∀a,IsL H a->IsL H' a
 c:∀a,IsC H a->IsC H' a
mutual
theorem Den.gen(k:Kp H H')(hi:∀(l:Nat) a,E! Y l a->E! Y' l a):∀{d:D}{v:V},fN!->qX! H' Y' d v
 | .non,_,h=>h | .bl _,_,h=>h | .int _,_,h=>h | .str _,_,h=>h | .tup ds,v,h=>by
  change ∃_,_;obtain⟨a,vs,e,h1,h2⟩:=h;exact⟨a,vs,e,k.k a _ h1 (by intro vs z;cases z) (by intro vs z;cases z) (by intro vs g z;cases z<;>exact g rfl),yj.gen k hi h2⟩ | .lst ds,v,h=>by
  change ∃_,_;obtain⟨a,o,vs,e,h1,h2⟩:=h;exact⟨a,o,vs,e,k.k a _ h1 (by intro vs z;cases z) (by intro vs z;cases z) (by intro vs g z;cases z<;>exact g rfl),yj.gen k hi h2⟩ | .dct,v,h=>by
  change ∃_,_;obtain⟨a,e,h1⟩:=h;exact⟨a,e,k.k a _ h1 (by intro vs z;cases z) (by intro vs z;cases z) (by intro vs g z;cases z<;>exact g rfl)⟩ | .loc l,v,h=>by
  change ∃_,_;obtain⟨a,e,h1,q⟩:=h;exact⟨a,e,hi l a h1,k.l a q⟩ | .dlo l,v,h=>by
  change ∃_,_;obtain⟨a,e,h1,q⟩:=h;exact⟨a,e,hi l a h1,k.c a q⟩ | .fn _,_,h=>h | .exc x,v,h=>by
  change ∃_,_;obtain⟨a,C,e,h1,h2⟩:=h;exact⟨a,C,e,h1,k.k a _ h2 (by intro vs z;cases z) (by intro vs z;cases z) (by intro vs g z;cases z<;>exact g rfl)⟩ | .scr ds,v,h=>by
  change ∃_,_;obtain⟨a,vs,e,h1,h2⟩:=h;exact⟨a,vs,e,h1.imp (λ⟨o,h1⟩=>⟨o,k.k a _ h1 (by intro vs z;cases z) (by intro vs z;cases z) (by intro vs g z;cases z<;>exact g rfl)⟩) id,yj.gen k hi h2⟩
theorem yj.gen(k:Kp H H')(hi:∀(l:Nat) a,E! Y l a->E! Y' l a):rL! iO! (f9! H' Y' ds vs)
 | [],_,h=>h | d::ds,vs,h=>by
  change ∃_,_;obtain⟨v,r,e,h1,h2⟩:=h;exact⟨v,r,e,Den.gen k hi h1,yj.gen k hi h2⟩
end
theorem uJ(hp:gl!):∀b u,cI! u->upd H p o b=b! u:=λb u h=>by rw[zJ (xp h hp)];exact h
theorem Kp.new(hp:gl!):Kp H (fo! o):=⟨λb u h _ _ _=>uJ hp b u h,λa ⟨vs,e⟩=>⟨vs,uJ hp a _ e⟩,λa h=>m6! (λ⟨vs,e⟩=>⟨vs,uJ hp a _ e⟩) (λh=>m6! (λ⟨o,vs,e⟩=>cj! vs (uJ hp a _ e)) (λh=>m6! (λ⟨vs,g,e⟩=>⟨vs,g,uJ hp a _ e⟩) (λ⟨o,vs,e⟩=>cj! vs (uJ hp a _ e))))⟩
theorem Kp.putL(h:IsL H a):Kp H (gP! ci!):=by
 obtain⟨ws,e⟩:=h;have ne:∀{b u},cI! u->(∀vs,u≠ci!)->b≠a:=λ{b u} q n z=>by subst z;rw[e]at q;exact n ws (_I q).symm
 refine⟨λb o q n1 n2 _=>by rw[zJ (ne q n1)];exact q,λb ⟨us,q⟩=>?_,λb h=>?_⟩
 ·by_cases z:b=a;·subst z;exact as! vs yw
  ·exact⟨us,by rw[zJ z];exact q⟩
 ·rcases h with⟨us,q⟩ | ⟨o,us,q⟩ | ⟨us,g,q⟩ | ⟨o,us,q⟩;·exact w! ⟨us,by rw[zJ (ne q (by intro _ z;cases z))];exact q⟩
  ·exact R! (w! ⟨o,us,by rw[zJ (ne q (by intro _ z;cases z))];exact q⟩)
  ·exact h5! (w! ⟨us,g,by rw[zJ (ne q (by intro _ z;cases z))];exact q⟩)
  ·exact R! (h5! ⟨o,us,by rw[zJ (ne q (by intro _ z;cases z))];exact q⟩)
theorem zff.imp: ∀{xs:List D}{ah:List (Key×V)},(∀ys vs k,(gv! [d! k,ib!]∈xs\/gv! [d! k,ib!,at!]∈xs)->pD! ys->f9! H' Y' ys vs)->(∀k b vs,(k,mz!)∈ah->cI! ci!->H' b=L! vs)->(∀b o vs,cI! (dS! ci!)->H' b=b! (dS! ci!))->zff mg H Y xs ah->zff mg H' Y' xs ah
 | [],_,_,_,_,h=>h | d::ds,ah,g,w,z,h=>by
  obtain⟨k,ys,b,vs,r,rfl,h1,h2,h3⟩:=h;refine⟨k,ys,b,vs,r,rfl,g ys vs k (h2.imp (λq=>by rw[q.1];simp) λq=>by rw[q.1];simp) h1,h2.imp (λq=>⟨q.1,w (oV! k) b vs (by simp) q.2⟩) (λq=>⟨q.1,q.2.imp λo e=>z b o vs e⟩),zff.imp (λys vs k hm=>g ys vs k (hm.imp (λq=>by simp[q]) λq=>by simp[q])) (λk b vs hm=>w k b vs (by simp[hm])) z h3⟩
theorem zff.fz: ∀{xs:List D}{ah:List (Key×V)}{k:Key}{b:Addr}{us:List V},zff mg H Y xs ah->zpd xs->(k,mz!)∈ah->H b=L! us->mY!
 | [],_,k,b,us,h,f,hm,z=>by subst h;simp at hm | d::ds,ah,k,b,us,h,f,hm,z=>by
  obtain⟨k',ys,b',vs,r,rfl,h1,h2,h3⟩:=h;rcases d2! hm with e | hm
  ·cases e;rcases h2 with⟨q,_⟩ | ⟨_,o,q⟩
   ·obtain⟨k2,zs,e2⟩:=f d ju!;rw[e2]at q;simp at q
   ·rw[q]at z;cases z
  ·exact zff.fz h3 (hY! (f d (.tail _ hd))) hm z
theorem zff.at_: ∀{xs:List D}{ah:List (Key×V)}{k:Key}{b:Addr},zff mg H Y xs ah->(k,mz!)∈ah->∃u,cI! u
 | [],_,k,b,h,hm=>by subst h;simp at hm | d::ds,ah,k,b,h,hm=>by
  obtain⟨k',ys,b',vs,r,rfl,h1,h2,h3⟩:=h;rcases d2! hm with e | hm
  ·cases e;rcases h2 with⟨_,q⟩ | ⟨_,o,q⟩<;>exact gc! q
  ·exact zff.at_ h3 hm
theorem Rep.ownAt(r:cJ!) (h:Own H Y b):∃u,cI! u:=by
 obtain⟨a,ha,ah,k,e,hm⟩:=h;obtain⟨l,hl,el⟩:=gu! ha;have eM:l<cf!:=by rw[<- r.len];exact hl
 obtain⟨b',e1,c⟩:=qd! l (s[l]) (_b eM);rw[_b hl]at e1;have := _I e1;subst this;rw[el]at c;rcases c with⟨_,z,_⟩ | ⟨_,z,_⟩ | ⟨_,_,_,z,_⟩ | ⟨br,_,z,dk⟩ | ⟨_,_,_,z,_⟩<;>rw[e]at z<;>cases z;exact dk.at_ hm
def DkS(H:Hp)(Y:bk!)(H':Hp)(Y':bk!):j!:=∀a∈Y',∀ah,H' a=b! gE!->a∈Y/\cb! gE!
theorem DkS.own(d:DkS H Y H' Y') (h:Own H' Y' b):Own H Y b:=by
 obtain⟨a,ha,ah,k,e,hm⟩:=h;obtain⟨h1,h2⟩:=d a ha ah e;exact⟨a,h1,ah,k,h2,hm⟩
theorem DkS.uq(r:cJ!)(d:DkS H Y H' Y'):∀a∈Y',∀a'∈Y',∀ah br (i j:Nat) k k' b,H' a=b! gE!->H' a'=b! (.dK br)->aj! ah (k,mz!)->E! br j (k',mz!)->a=a'/\i=j:=λa ha a' gv ah br i j k k' b e e'=> r.uq a (d a ha ah e).1 a' (d a' gv br e').1 ah br i j k k' b (d a ha ah e).2 (d a' gv br e').2
theorem z9B(h:upd H p o b=a!):eN!:=by
 by_cases z:b=p;·subst z;rw[yw]at h;cases h
 ·rw[zJ z]at h;exact h
theorem jP.gen(k:Kp H H')(hi:∀(l:Nat) a,E! Y l a->E! Y' l a)(e:H' a=H a)(ha:a∈Y)(ro:∀b,Own H Y b->b∉Y)(w:∀b vs,b∉Y->cI! ci!->H' b=L! vs)(h:jP mg H Y xs a):jP mg H' Y' xs a:=by
 rcases h with⟨vs,h1,h2⟩ | ⟨ah,h1,h2⟩ | ⟨o,ah,ys,h1,h2⟩ | ⟨ah,g,h1,h2⟩ | ⟨o,ah,ys,h1,e1,h2,f⟩;·exact w! ⟨vs,mn!,h2.gen k hi⟩
 ·exact R! (w! ⟨ah,mn!,h2⟩)
 ·exact h5! (w! ⟨o,ah,ys,mn!,h2⟩)
 ·exact R! (h5! (w! ⟨ah,g,mn!,h2.imp (λ_ _ _ _ q=>q.gen k hi) (λq b vs hm=>w b vs (ro b ⟨a,ha,ah,q,h1,hm⟩)) λb o vs q=>k.k b _ q (by intro vs z;cases z) (by intro vs z;cases z) (by intro vs g z;cases z)⟩))
 ·exact h5! (h5! ⟨o,ah,ys,mn!,e1,h2.imp (λ_ _ _ _ q=>q.gen k hi) (λq b vs hm z=>bV! (h2.fz f.1 hm z)) λb o vs q=>k.k b _ q (by intro vs z;cases z) (by intro vs z;cases z) (by intro vs g z;cases z),f⟩)
theorem jP.ne(h:jP mg H Y xs a)(hp:gl!):a≠p:=by
 rintro rfl;rcases h.kind with⟨_,e⟩ | ⟨_,e⟩ | ⟨_,_,e⟩ | ⟨_,_,e⟩ | ⟨_,_,e⟩<;>rw[hp]at e<;>cases e
theorem Rep.notin(r:cJ!)(hp:gl!):p∉Y:=λz=>by rcases r.mt p z with⟨_,e⟩ | ⟨_,e⟩ | ⟨_,_,e⟩ | ⟨_,_,e⟩ | ⟨_,_,e⟩<;>rw[hp]at e<;>cases e
theorem vj.lay(r:cJ!)(hp:gl!)(ho:∀vs,o≠ci!):vj mg H Y (fo! o) Y s:= have d:DkS H Y (fo! o) Y:=λa ha ah e=>⟨ha,by rw[zJ (show a≠p from λz=>r.notin hp (z ▸ ha))]at e;exact e⟩;⟨⟨r.len,r.nd,λl xs h=>let ⟨a,h1,h2⟩:=qd! l xs h;⟨a,h1,h2.gen (.new hp) (λ_ _ q=>q) (zJ (h2.ne hp)) (_u h1) r.own (λb vs _ q=>uJ hp b _ q)⟩,r.flat,λb h=>r.own b (d.own h),d.uq r⟩,_dh _,λb u h _ _=>uJ hp b u h,λa h1 h2=>cN! h1 h2,λa ha=>(r.mt a ha).imp (λh=>⟨h,(Kp.new hp).l a h⟩) λh=>⟨h,(Kp.new hp).c a h,λ_ _ e=>uJ hp a _ e⟩,λb h=>z9B h,λb h=>w! (d.own h)⟩
theorem vj.layC(r:cJ!)(hp:gl!)(hc:jP mg (fo! o) (Y++[p]) xs p)(hf:c0! xs)(ho:∀ah,o≠gE!:=by intro _ z;cases z):vj mg H Y (fo! o) (Y++[p]) (s++[xs]):=by
 have d:DkS H Y (fo! o) (Y++[p]):=λa ha ah e=>by
  by_cases z:a=p;·subst z;rw[yw]at e;exact cN! (_I e) (ho ah)
  ·rw[zJ z]at e;exact di! (mx! ha id (λq=>cN! (by simpa using q) z))
 have hi:∀(l:Nat) a,E! Y l a->E! (Y++[p]) l a:=λl a h=>by rw[_G (cE! h)];exact h
 refine⟨⟨by simp[r.len],?_,λl ys h=>?_,λys h=>?_,λb h=>?_,d.uq r⟩,List.prefix_append _ _,λb u h _ _=>uJ hp b u h,λa h1 h2=>?_,λa ha=>(r.mt a ha).imp (λh=>⟨h,(Kp.new hp).l a h⟩) λh=>⟨h,(Kp.new hp).c a h,λ_ _ e=>uJ hp a _ e⟩,λb h=>z9B h,λb h=>w! (d.own h)⟩
 ·rw[List.nodup_append];exact⟨r.nd,by simp,λa ha b hb=>by
   have:b=p:=by simpa using hb
   subst this;exact λz=>(r.notin hp) (z ▸ ha)⟩
 ·by_cases hl:l<cf!
  ·rw[_G hl]at h;obtain⟨a,h1,h2⟩:=qd! l ys h;exact⟨a,hi l a h1,h2.gen (.new hp) hi (zJ (h2.ne hp)) (_u h1) r.own (λb vs _ q=>uJ hp b _ q)⟩
  ·have h0:l=cf!:=by
    have:=cE! h;simp at this;lia
   subst h0;simp at h;subst h;exact⟨p,by rw[<- r.len];simp,hc⟩
 ·rcases mX! h with h | h;·exact r.flat ys h
  ·rw[(show ys=xs from by simpa using h)];exact hf
 ·have q:=d.own h;obtain⟨u,hu⟩:=r.ownAt q;intro z;rcases mX! z with z | z;·exact r.own b q z
  ·rw[(show b=p from by simpa using z),hp]at hu;cases hu
 ·rcases mX! h1 with h | h;·exact cN! h h2
  ·rw[(show a=p from by simpa using h)];exact hp
theorem vj.layL(r:cJ!)(hp:gl!)(hd:he!)(hf:c0! xs):vj mg H Y (fo! ci!) (Y++[p]) (s++[xs]):= vj.layC r hp (w! ⟨vs,yw,hd.gen (.new hp) λl a h=>by rw[_G (cE! h)];exact h⟩) hf
theorem vj.putC(r:cJ!)(ha:E! Y l a)(k:Kp H (gP! o))(hc:jP mg (gP! o) Y xs a)(hf:c0! xs)(ho:∀ah,o≠gE!:=by intro _ z;cases z):vj mg H Y (gP! o) Y (s.set l xs):=by
 have d:DkS H Y (gP! o) Y:=λb hb ah e=>by
  by_cases z:b=a;·subst z;rw[yw]at e;exact cN! (_I e) (ho ah)
  ·rw[zJ z]at e;exact di! hb
 have lq := _u ha;refine⟨⟨by simp[r.len],r.nd,λj ys h=>?_,λys h=>?_,λb h=>r.own b (d.own h),d.uq r⟩,_dh _,λb u h hn _=>?_,λa h1 h2=>cN! h1 h2,ce! ((r.mt b hb).imp (λh=>⟨h,k.l b h⟩) λh=>⟨h,k.c b h,λ_ _ e=>k.k b _ e (by intro _ z;cases z) (by intro _ z;cases z) (by intro _ _ z;cases z)⟩),λb h=>z9B h,λb h=>w! (d.own h)⟩
 ·by_cases hj:l=j
  ·subst hj;rw[_ag (by rw[<- r.len];exact cE! ha)]at h;cases h;exact aQ! a ha hc
  ·rw[_ab hj]at h;obtain⟨b,h1,h2⟩:=qd! j ys h;refine⟨b,h1,h2.gen k (λ_ _ q=>q) (zJ ?_) (_u h1) r.own (λc vs hc q=>by rw[zJ (show c≠a from λz=>hc (z ▸ lq))];exact q)⟩;rintro rfl;exact hj ((_aY r.nd).mp (bL! (nL! ha).2 ((nL! h1).2).symm))
 ·rcases _A h with h | h;·exact r.flat ys h
  ·rw[h];exact hf
 ·rw[zJ (λz=>by subst z;exact hn lq)];exact h
theorem vj.put(r:cJ!)(ha:E! Y l a)(ka:IsL H a)(hd:he!)(hf:c0! xs):vj mg H Y (gP! ci!) Y (s.set l xs):= vj.putC r ha (.putL ka) (w! ⟨vs,yw,hd.gen (.putL ka) λ_ _ q=>q⟩) hf
noncomputable def listOf(s:Sto):D->bh! C!
 | .lst xs=>b! xs | .loc l=>s[l]? | _=>none
noncomputable def zV(s:Sto):D->bh! C!
 | .tup xs=>b! xs | .lst xs=>b! xs | .scr xs=>b! xs | .loc l=>s[l]? | _=>none
theorem yn(r:cJ!)(h:lM! d=b! xs)(dn:fN!):∃a vs,v=ad!/\Rd H a ci!/\he!:=by cases d with
 | lst ys=>
  simp only[listOf,_y]at h;subst h;obtain⟨a,o,vs,e,h1,h2⟩:=dn;exact⟨a,vs,e,d8! o h1,h2⟩ | loc l=>
  obtain⟨a,e,h1,k⟩:=dn;obtain⟨vs,h3,h4⟩:=r.at_ h h1 k;exact⟨a,vs,e,w! h3,h4⟩ | _=>simp[listOf]at h
theorem zl9(dn:j3! (.scr xs) v):∃a vs,v=ad!/\SqL m5! H a vs/\he!:=by
 obtain⟨a,vs,e,h1,h2⟩:=dn;exact⟨a,vs,e,h1.elim (λ⟨o,h⟩=>w! (d8! o h)) .inr,h2⟩
theorem jc{K:W.Frag} (r:cJ!)(h:zV s d=b! xs)(dn:fN!)(hK:y! (m5!=K)):∃a vs,v=ad!/\(SqL K H a vs\/en! K a vs)/\he!:=by cases d with
 | tup ys=>
  simp only[zV,_y]at h;subst h;obtain⟨a,vs,e,h1,h2⟩:=dn;exact⟨a,vs,e,R! (w! (w! h1)),h2⟩ | lst ys=>
  obtain⟨a,vs,e,h1,h2⟩:=yn (d:=ib!) r h dn;exact⟨a,vs,e,w! (w! h1),h2⟩ | scr ys=>
  simp only[zV,_y]at h;subst h;subst hK;obtain⟨a,vs,e,h1,h2⟩:=zl9 dn;exact⟨a,vs,e,w! h1,h2⟩ | loc l=>
  obtain⟨a,vs,e,h1,h2⟩:=yn (d:=ea!) r h dn;exact⟨a,vs,e,w! (w! h1),h2⟩ | _=>simp[zV]at h
theorem kW{K:W.Frag} (dn:j3! aD! v):∃a vs,v=ad!/\en! K a vs/\he!:=by
 obtain⟨a,vs,e,h1,h2⟩:=dn;exact⟨a,vs,e,w! (w! h1),h2⟩
end
noncomputable def cap:Nat:=100000
theorem kM(h:n<=cap):n<=aW!:=_Y h (by decide)
theorem zqg(h:n<cap):n<aW!:=_i h (by decide)
noncomputable def BIG:Nat:=2 ^ 4096
noncomputable def zlX(x y:D)(s:Sto):R D:=match lM! x,lM! y with
 | some a,some b=>aa! (a.length+nY!<=cap) (bw! (a++b)) | _,_=>.no
def xj:D->D->bn!
 | .int i,.int j,s=>u! (i+j) | .tup a,.tup b,s=>aa! (a.length+nY!<=cap) (bf! (a++b)) | x,y,s=>zlX x y s
section
variable {X:Cx}{E:XK}
theorem yq(h:j3! ac! v):v=ac!:=h
theorem kO(h:j3! (.bl i) v):v=.bl i:=h
theorem z06(h:j3! (ax! i) v):v=ax! i:=h
theorem yB: j3! ac! ac!:=rfl
theorem wz: j3! (.bl i) (.bl i):=rfl
theorem z04{Q:VK}(r:cJ!)(h:dC! H Y (Den mg) (k! cD!) Q)(hd:he!):∀p,gl!->zjg Q b9! (fo! ci!):=bo! (by
 refine gB! p vs yw (λo=>?_);rw[zm8];have stp:=vj.lay (o:=dS! ci!) r hp (by intro _ z;cases z);exact h _ _ _ stp ⟨p,o,vs,rfl,yw,hd.mono stp⟩)
theorem z3V{Q:VK}(r:cJ!)(h:dC! H Y (Den mg) (k! aD!) Q)(hd:he!):∀p,gl!->Q b9! (fo! (p! vs)):=bo! (by
 have stp:=vj.lay (o:=p! vs) r hp (by intro _ z;cases z);exact h _ _ _ stp (gB! p vs yw (hd.mono stp)))
theorem zcX{Q:VK}(r:Rep B! H Y s)(h1:Den B! H Y d1 v1)(h2:Den B! H Y d2 v2)(h:iL! B! H Y j2! (zlX d1 d2 s) Q):∃l b xs zs,v1=V.ref l/\v2=mz!/\Rd H l cD!/\Rd H b (ab! zs)/\v!+zs.length<=aW!/\∀p,gl!->zjg Q b9! (fo! (ab! (xs++zs))):=by
 unfold zlX at h;cases ha:lM! d1 with
 | none=>rw[ha]at h;exact bV! (h:mY!) | some a=>
  rw[ha]at h;cases hb:lM! d2 with
  | none=>rw[hb]at h;exact bV! (h:mY!) | some b=>
   rw[hb]at h;obtain⟨l,vs,e,q1,q2⟩:=yn r ha h1;obtain⟨l',fq,e',gw,ec⟩:=yn r hb h2;have h:iL! B! H Y j2! (aa! (a.length+nY!<=cap) (bw! (a++b))) Q:=h;split at h
   ·rename_i hl;exact⟨l,l',vs,fq,e,e',q1,gw,by rw[q2.length,ec.length];exact kM hl,z04 r h (q2.append ec)⟩
   ·exact h.elim
theorem yG:∃r,gf! .Add r/\cK! xj:=by
 refine bG! (zpg.or ((zjI).or ((zmm).or (zlH.freeze)))) ?_;intro H Y s d1 d2 v1 v2 Q r h1 h2 h;cases d1 with
 | int i=>cases d2 with
  | int j=>
   cases yq h1;cases yq h2;exact w! (bj! i j rfl (g4! h yB)) | _=>exact R! (h5! (zcX r h1 h2 h))
 | tup a=>cases d2 with
  | tup b=>
   obtain⟨l,vs,rfl,q1,q2⟩:=kW h1;obtain⟨l',fq,rfl,gw,ec⟩:=kW h2;have h:iL! B! H Y j2! (aa! (a.length+nY!<=cap) (bf! (a++b))) Q:=h;split at h
   ·rename_i hl;cases a with
    | nil=>
     subst q2;exact R! (w! ⟨l,l',fq,rfl,rfl,q1,gw,eB! h2⟩) | cons x a=>
     refine h5! (w! ⟨l,l',vs,fq,rfl,rfl,q1,gw,(λz=>by have:=q2.length;rw[z]at this;simp at this),by rw[q2.length,ec.length];exact kM hl,λz=>?_,λz=>z3V r h (q2.append ec)⟩);have eb:b=[]:=by
      have:=ec.length;rw[z]at this;exact _aV.mp this.symm
     subst eb;rw[_aH]at h;exact eB! h1
   ·exact h.elim | _=>exact R! (h5! (zcX r h1 h2 h))
 | _=>exact R! (h5! (zcX r h1 h2 h))
end
noncomputable def dII(g:Int->Int->R D):D->D->bn!
 | .int i,.int j,s=>match g i j with | .ok d _=>k! d | _=>.no
 | _,_,_=>.no
noncomputable def iOk(d:D):R D:=.ok d []
noncomputable def z7h:D->D->bn!:=lL! (iOk (d! (i-j)))
noncomputable def yT:D->D->bn!:=lL! (aa! (gV!<BIG/\kl!<BIG) (iOk (d! (i*j))))
noncomputable def z9i:D->D->bn!:=lL! (aa! (0<j/\kl!<BIG) (iOk (d! (i / j))))
noncomputable def zdO:D->D->bn!:=lL! (aa! (0<j) (iOk (d! (i % j))))
noncomputable def zdP:D->D->bn!:=lL! (aa! (0<=j/\dm! j/\gV!<e3!) (iOk (d! (i ^ kj!))))
noncomputable def dLt:D->D->bn!:=lL! (iOk (.bl (dO! i j)))
noncomputable def dLe:D->D->bn!:=lL! (iOk (.bl (jx! i j)))
noncomputable def dGt:D->D->bn!:=lL! (iOk (.bl (dO! j i)))
noncomputable def dGe:D->D->bn!:=lL! (iOk (.bl (jx! j i)))
section
variable {X:Cx}{E:XK}
theorem z0E(h:∀i j d t H Q,g i j=.ok d t->(∀v,(∀H Y,Den B! H Y d v)->Q v H)->r ac! (d! j) H Q):cK! (dII g):=by
 intro H Y s d1 d2 v1 v2 Q rp h1 h2 hq;unfold dII at hq;split at hq
 ·rename_i i j;cases yq h1;cases yq h2;split at hq
  ·rename_i d t e;exact h i j d t H Q e (lc! (hq.here rp (hv H Y)))
  ·exact hq.elim
 ·exact hq.elim
theorem z6s:∃r,gf! .Sub r/\cK! z7h:=bG! zom (lu! (by
 simp only[iOk,R.ok.injEq]at e;exact bj! i j rfl (q _ (by intro H Y;rw[<- e.1];exact yB))))
theorem ze0(h:gV!<BIG):Builtin.Int.intBits i<=2 ^ 20:=by
 have q := (PySem.intBits_le_iff ).mpr h;lia
theorem zns:nm! (rI (λi j=>gV!<BIG/\kl!<BIG) (ms! (i*j))):=opI λ_ _ _ _ _ _ _ hc q=>mul_int q (IntMulOk.of_bits (ze0 hc.1) (ze0 hc.2))
theorem uB:∃r,nm! r/\cK! yT:=bG! zns (lu! (by
 split at e
 ·rename_i hc;simp only[iOk,R.ok.injEq]at e;exact⟨i,j,rfl,rfl,hc,q _ (by intro H Y;rw[<- e.1];exact yB)⟩
 ·cases e))
theorem zgh{j:Int}(h:kl!<BIG):j.natAbs.log2<9000:=by
 by_cases h0:kl!=0;·rw[h0];decide +kernel
 ·have := (Nat.log2_lt h0).mpr h;lia
theorem zjV:gf! .FloorDiv (rI (λ_ j=>0<j/\kl!<BIG) (ms! (i / j))):=opI λi j _ _ _ _ _ hc q=>by
 refine floordiv_int (by lia) ?_ (w! (_bK (zgh hc.2)));rw[_bw _ (by lia)];exact q
theorem zhi:∃r,gf! .FloorDiv r/\cK! z9i:=bG! zjV (lu! (by
 split at e
 ·rename_i hc;simp only[iOk,R.ok.injEq]at e;exact⟨i,j,rfl,rfl,hc,q _ (by intro H Y;rw[<- e.1];exact yB)⟩
 ·cases e))
theorem zcC:∃r,gf! .Mod r/\cK! zdO:=bG! zox (lu! (by
 split at e
 ·rename_i hc;simp only[iOk,R.ok.injEq]at e;exact⟨i,j,rfl,rfl,hc,q _ (by intro H Y;rw[<- e.1];exact yB)⟩
 ·cases e))
theorem zeV:∃r,gf! .Pow r/\cK! zdP:=bG! zpX (lu! (by
 split at e
 ·rename_i hc;simp only[iOk,R.ok.injEq]at e;exact⟨i,j,rfl,rfl,⟨hc.1,by lia,by lia⟩,q _ (by intro H Y;rw[<- e.1];exact yB)⟩
 ·cases e))
theorem ztZ:∃r,dE! .Lt r/\cK! dLt:=bG! zsQ (lu! (by
 simp only[iOk,R.ok.injEq]at e;exact bj! i j rfl (q _ (by intro H Y;rw[<- e.1];exact wz))))
theorem ztz:∃r,dE! .LtE r/\cK! dLe:=bG! zqQ (lu! (by
 simp only[iOk,R.ok.injEq]at e;exact bj! i j rfl (q _ (by intro H Y;rw[<- e.1];exact wz))))
theorem zo2:∃r,dE! .Gt r/\cK! dGt:=bG! zrO (lu! (by
 simp only[iOk,R.ok.injEq]at e;exact bj! i j rfl (q _ (by intro H Y;rw[<- e.1];exact wz))))
theorem zsS:∃r,dE! .GtE r/\cK! dGe:=bG! zs9 (lu! (by
 simp only[iOk,R.ok.injEq]at e;exact bj! i j rfl (q _ (by intro H Y;rw[<- e.1];exact wz))))
end
mutual
noncomputable def z8V:D->PyData
 | .non=>X! | .bl b=>kN! | .int i=>ac! | .str x=>bQ! | .tup xs=>.tuple oM! | .lst xs=>.list oM! | _=>lf! []
noncomputable def toPys:C!->dZ! PyData
 | []=>[] | d::ds=>z8V d::toPys ds
end
theorem zum(i:Int):z8V ac!=ac!:=V!
theorem zud(x:Str):z8V bQ!=bQ!:=V!
theorem zpE(xs:C!):z8V aD!=.tuple oM!:=V!
theorem tPn:toPys []=[]:=V!
theorem tPc(d:D)(ds:C!):toPys (d::ds)=z8V d::toPys ds:=V!
theorem zpA(xs:C!):z8V cD!=.list oM!:=V!
noncomputable def eqD(a b:D):Bool:=PyData.eqv (z8V a) (z8V b)
noncomputable def zim(d:D):Bool:=SeqAt.shaped (z8V d)
noncomputable def dEq(x y:D)(s:Sto):R D:=aa! (zim x=c!/\zim y=c!) (aM! (eqD x y))
noncomputable def dNe(x y:D)(s:Sto):R D:=aa! (zim x=c!/\zim y=c!) (aM! (! eqD x y))
section
variable {P:Program}{w:World}{mg:Gm}{H:Hp}{Y:bk!}{h:Heap}
mutual
theorem Den.reads(ok:HOk P w H h):∀{d:D}{v:V}{u:Value},lx! (z8V d)->fN!->wA v u->∃as,Reads h u (z8V d) as
 | .non,_,_,_,dn,r=>by obtain rfl:=dn;cases r;exact gc! Reads.none | .bl b,_,_,_,dn,r=>by obtain rfl:=dn;cases r;exact gc! (Reads.bool b) | .int i,_,_,_,dn,r=>by obtain rfl:=dn;obtain⟨t,rfl⟩:=r;exact gc! (Reads.int i t) | .str x,_,_,_,dn,r=>by obtain rfl:=dn;obtain⟨t,rfl⟩:=r;exact gc! (Reads.str x t) | .tup ds,_,_,c,dn,r=>by
  obtain⟨a,vs,rfl,h1,h2⟩:=dn;cases r;obtain⟨_,af,rv,o,e,hc,_,n,hd⟩:=ok a _ h1;obtain⟨as,q⟩:=yj.reads ok c h2 rv;exact⟨as,Reads.tuple e hc hd (by simpa using q)⟩ | .lst ds,_,_,c,dn,r=>by
  obtain⟨a,o,vs,rfl,h1,h2⟩:=dn;cases r;obtain⟨_,_,af,n,rv,e⟩:=ok a _ h1;obtain⟨as,q⟩:=yj.reads ok c h2 rv;exact gc! (Reads.list e rfl rfl (by simpa using q)) | .dct,_,_,c,_,_=>nomatch (c:t!=c!) | .loc _,_,_,c,_,_=>nomatch (c:t!=c!) | .fn _,_,_,c,_,_=>nomatch (c:t!=c!) | .exc _,_,_,c,_,_=>nomatch (c:t!=c!)
theorem yj.reads(ok:HOk P w H h):∀{ds:List D}{vs:List V}{us:List Value},PyData.canLayAll0 (toPys ds)=c!->iO!->j1! vs->∃as,ReadsAll h us (toPys ds) as
 | [],_,_,_,dn,r=>by obtain rfl:=dn;cases r;exact gc! ReadsAll.nil | d::ds,_,_,c,dn,r=>by
  obtain⟨v,vs,rfl,h1,h2⟩:=dn;have c:=m4! c;cases r with | cons r1 r2=>
   obtain⟨as,q⟩:=Den.reads ok c.1 h1 r1;obtain⟨bs,q'⟩:=yj.reads ok c.2 h2 r2;exact gc! (ReadsAll.cons q q')
end
end
section
variable {X:Cx}{E:XK}
def ztS(mg:Gm)(cf:Bool):R2:=hw! (∃Y d1 d2,j3! d1 x/\j3! d2 y/\zim d1=c!/\zim d2=c!/\Q (.bl (ai! cf (! eqD d1 d2) (eqD d1 d2))) H)
theorem zpI(hu:X.A.units+64<m1!):dE! .Eq (ztS B! t!):=by
 intro ae s O H x y v u Q I rx ry ⟨Y,d1,d2,h1,h2,p1,p2,q⟩;obtain⟨as,ra⟩:=Den.reads er! (_bi p1) h1 rx;obtain⟨bs,rb⟩:=Den.reads er! (_bi p2) h2 ry;exact SeqAt.compareEq_shaped ra rb p1 p2 hu (bj! (.bl (eqD d1 d2)) H I q)
theorem zqp(hu:X.A.units+64<m1!):dE! .NotEq (ztS B! c!):=by
 intro ae s O H x y v u Q I rx ry ⟨Y,d1,d2,h1,h2,p1,p2,q⟩;obtain⟨as,ra⟩:=Den.reads er! (_bi p1) h1 rx;obtain⟨bs,rb⟩:=Den.reads er! (_bi p2) h2 ry;exact SeqAt.compareNe_shaped ra rb p1 p2 hu (bj! (.bl (! eqD d1 d2)) H I q)
theorem z3D(hu:X.A.units+64<m1!):∃r,dE! .Eq r/\cK! dEq:=⟨_,zpI hu,λH Y s d1 d2 v1 v2 Q r h1 h2 h=>by
 unfold dEq at h;split at h
 ·rename_i hc;exact⟨Y,d1,d2,h1,h2,hc.1,hc.2,eB! wz⟩
 ·exact h.elim⟩
theorem z4Y(hu:X.A.units+64<m1!):∃r,dE! .NotEq r/\cK! dNe:=⟨_,zqp hu,λH Y s d1 d2 v1 v2 Q r h1 h2 h=>by
 unfold dNe at h;split at h
 ·rename_i hc;exact⟨Y,d1,d2,h1,h2,hc.1,hc.2,eB! wz⟩
 ·exact h.elim⟩
noncomputable def zaN:D->bh! V
 | .non=>b! at! | .bl b=>b! ho! | .int i=>e! i | .str x=>b! bQ! | _=>none
theorem zbf(h:zaN d=b! w)(dn:fN!):v=w/\z7z v=c!:=by cases d<;>first | (cases h;subst dn;exact ch! rfl) | cases h
noncomputable def z1E:C!->bh! aU!
 | []=>b! [] | d::ds=>match zaN d,z1E ds with | some v,some vs=>b! (v::vs) | _,_=>none
theorem z8m: ∀{ds:List D}{vs ws:List V},z1E ds=b! ws->iO!->vs=ws/\vs.all z7z=c!
 | [],_,_,h,dn=>by cases h;subst dn;exact ch! rfl | d::ds,_,_,h,dn=>by
  obtain⟨v,vs,rfl,h1,h2⟩:=dn;simp only[z1E]at h;split at h
  ·rename_i w ws e1 e2;cases h;obtain⟨a1,a2⟩:=zbf e1 h1;obtain⟨b1,b2⟩:=z8m e2 h2;exact⟨by rw[a1,b1],by rw[_cc,a2,b2];rfl⟩
  ·cases h
noncomputable def zc9(cf:Bool)(x y:D)(s:Sto):R D:=match zaN x,z! (zV s y) z1E with
 | some v,some vs=>aM! (ai! cf (! inV v vs) (inV v vs)) | _,_=>.no
theorem zlu{cf:Bool}:OpF X E (rIn X.K cf) (zc9 cf):=λH Y s d1 d2 v1 v2 Q r h1 h2 h=>by
 unfold zc9 at h;split at h
 ·rename_i v vs e1 e2;cases e3:zV s d2 with
  | none=>rw[e3]at e2;cases e2 | some xs=>
   rw[e3]at e2;obtain⟨a,ws,rfl,q1,q2⟩:=jc r e3 h2;obtain⟨b1,b2⟩:=z8m e2 q2;obtain⟨a1,a2⟩:=zbf e1 h1;subst a1 b1;exact⟨a,ws,rfl,q1,a2,b2,eB! wz⟩
 ·exact h.elim
theorem ztT:∃r,dE! .In r/\cK! (zc9 t!):=bG! zhE zlu
theorem zmH:∃r,dE! .NotIn r/\cK! (zc9 c!):=bG! zaa zlu
noncomputable def dIs:D->D->bn!
 | .bl a,.bl b,s=>aM! (a==b) | .non,.non,s=>bN! | .bl _,.non,s=>cS! | .int _,.non,s=>cS! | .str _,.non,s=>cS! | .tup _,.non,s=>cS! | .lst _,.non,s=>cS! | _,_,_=>.no
theorem zq6:dE! .Is (hw! (∃a b,x=.bl a/\y=ho!/\Q (.bl (a==b)) H)):=by
 intro ae s O H x y v u Q I rx ry ⟨a,b,e1,e2,q⟩;subst e1 e2;cases rx;cases ry;exact is_bool (bj! (.bl (a==b)) H I q)
theorem ztE:∃r,dE! .Is r/\cK! dIs:=⟨_,zq6.or zo8,λH Y s d1 d2 v1 v2 Q r h1 h2 h=>by cases d2 with
 | bl b=>cases d1 with
  | bl a=>cases kO h1;cases kO h2;exact w! (bj! _ _ rfl (g4! h wz)) | _=>exact bV! (show False from h)
 | non=>cases d1 with
  | non=>subst h1 h2;exact d8! rfl (by exact (g4! h wz)) | bl _=>subst h1 h2;exact d8! rfl (by exact (g4! h wz)) | int _=>subst h1 h2;exact d8! rfl (by exact (g4! h wz)) | str _=>subst h1 h2;exact d8! rfl (by exact (g4! h wz)) | tup _=>obtain⟨a,vs,rfl,_⟩:=h1;subst h2;exact d8! rfl (by exact (g4! h wz)) | lst _=>obtain⟨a,o,vs,rfl,_⟩:=h1;subst h2;exact d8! rfl (by exact (g4! h wz)) | _=>exact bV! (show False from h)
 | _=>cases d1<;>exact bV! (show False from h)⟩
noncomputable def dIx(x y:D)(s:Sto):R D:=match y,zV s x with
 | .int i,some xs=>match atI xs i with | some d=>k! d | none=>.no
 | _,_=>.no
theorem zj4(h:he!)(e:atI xs i=i!):∃v,atI vs i=bx!/\fN!:=by
 unfold atI at e ⊢;rw[h.length];cases q:kA! i with
 | none=>rw[q]at e;cases e | some j=>
  rw[q]at e;exact h.get e
theorem zuY:∃r,IxR X r/\cK! dIx:=⟨_,zmw.or zpv,λH Y s d1 d2 v1 v2 Q r h1 h2 h=>by
 unfold dIx at h;split at h
 ·rename_i i xs e;split at h
  ·rename_i d e2;cases yq h2;obtain⟨a,vs,rfl,q1,q2⟩:=jc r e h1;obtain⟨v,e3,e4⟩:=zj4 q2 e2;rcases q1 with q1 | q1;·exact w! ⟨a,vs,i,v,rfl,rfl,q1,e3,eB! e4⟩
   ·exact R! ⟨a,vs,i,v,rfl,rfl,q1,e3,eB! e4⟩
  ·exact h.elim
 ·exact h.elim⟩
end
section
variable {X:Cx}{E:XK}{e a b c:Expr}{es:aC!}{pos:Pos}
theorem zE(ho:∃r,gf! op r/\cK! fo)(ha:fG! a)(hb:W! b fb):W! (.BinOp a op b pos) (eOp fo fa fb):=let ⟨_,h⟩:=ho;zup h ha hb
theorem uz(ho:∃r,dE! op r/\cK! fo)(ha:fG! a)(hb:W! b fb)(hm:pz! b=t!:=by first | exact zlw _ | rfl):W! (.Compare a [op] [b] pos) (eOp fo fa fb):=let ⟨_,h⟩:=ho;zqP h ha hb hm
noncomputable def tOf(f:FE):FT:=eu! (dV! (match d with | .bl k=>T! k | _=>.no))
theorem zde(h:tT B! E (tOf f) O H Q):zp8 (tE B! E f) O H Q:=by
 obtain⟨Y,ρ,s,r,en,h⟩:=h;refine yI (k:=km! (match d with | .bl k=>T! k | _=>.no)) r en h _ λv H1 Y1 s1 d r1 av dn stp h1=>?_;cases d with
 | bl k=>
  cases kO dn;exact aA! k (ri! rfl) | _=>exact h1.elim
theorem yc(ho:∃r,dE! op r/\cK! fo)(ha:fG! a)(hb:W! b fb)(hm:pz! b=t!:=by first | exact zlw _ | rfl):RT X E (.Compare a [op] [b] pos) (gA! fo fa fb):=by
 obtain⟨r,h1,h2⟩:=ho;exact zhG (zmn h1 ha hb hm) λO H Q h=>zeh h2 (zde h)
noncomputable def zeo(fo dw:D->D->bn!)(fa fb fc:FE):FE:=bW! (gk! s) (λx s1=>z! fK! (λy s2=>z! (fo x y s2) (λz s3=>match z with
 | .bl true=>z! (fc ρ s3) (λw s4=>dw y w s4) | .bl false=>.ok dg! s3 | _=>.no)))
theorem zgT(ho:cK! fo)(cb:OpF X E r' dw) (h:tE B! E (zeo fo dw fa fb fc) O H Q):zkJ r r' (tE B! E fa) (tE B! E fb) (tE B! E fc) O H Q:=by
 obtain⟨Y,ρ,s,rp,en,h⟩:=h;refine yI (k:=lg! (z! fK! (λy s2=>z! (fo x y s2) (λz s3=>match z with
  | .bl true=>z! (fc ρ s3) (λw s4=>dw y w s4) | .bl false=>.ok dg! s3 | _=>.no)))) rp en h _ λv H1 Y1 s1 d r1 av dn stp h1=>(yI (k:=fun ρ y s2=>z! (fo d y s2) (λz s3=>match z with
  | .bl true=>z! (fc ρ s3) (λw s4=>dw y w s4) | .bl false=>.ok dg! s3 | _=>.no)) r1 av h1 _ λv2 H2 Y2 s2 d2 r2 aY ax ag h2=>(ho H2 Y2 s2 d d2 v v2 _ r2 lD! ax (c2! h2 (λv3 H3 ⟨Y3,s3,d3,aq,cB,h3⟩=>?_))));cases d3 with
 | bl k=>
  cases kO cB;refine aA! k ?_;cases k with
  | true=> exact yI (k:=fun ρ w s4=>dw d2 w s4) aq.rep (aY.mono aq) h3 _ λv4 H4 Y4 s4 d4 r4 ii nh bF h4=>(cb H4 Y4 s4 d2 d4 v2 v4 Q r4 ((ax.mono aq).mono bF) nh h4) | false=> exact nX! h3 aq.rep wz
 | _=>exact h3.elim
theorem zmU(ho:∃r,dE! op r/\cK! fo)(cb:∃r,dE! dj r/\cK! dw)(ha:fG! a)(hb:W! b fb)(hc:W! c fc) (hm:autoParam (lastMarks [op,dj] [b,c]=t!) aWu):W! (.Compare a [op,dj] [b,c] pos) (zeo fo dw fa fb fc):=by
 obtain⟨r,h1,h2⟩:=ho;obtain⟨r',ni,ck⟩:=cb;exact yk (zjH h1 ni ha hb hc hm) λO H Q h=>zgT h2 ck h
noncomputable def zc2(fa fb:FE):FE:=bW! (gk! s) (λx s1=>match x with | .bl true=>fK! | .bl false=>T! dg! | _=>.no)
noncomputable def zqH(fa:FE):FE:=bW! (gk! s) (λx s1=>match x with | .bl k=>T! (.bl (!k)) | _=>.no)
variable {jI:aC!}
theorem z4H(h:W! a f):W! (g3! op [a]) f:=zoV h
theorem z3n(ha:fG! a)(hb:W! (g3! .And (b::jI)) fb):W! (g3! .And (a::b::jI)) (zc2 fa fb):= yk (zoc ha hb) λO H Q ⟨Y,ρ,s,r,en,h⟩=>by
  refine yI (k:=lg! (match x with | .bl true=>fK! | .bl false=>T! dg! | _=>.no)) r en h _ λv H1 Y1 s1 d r1 av dn stp h1=>?_;cases d with
  | bl k=>
   cases kO dn;refine aA! k ?_;cases k with
   | true=>exact⟨Y1,ρ,s1,r1,av,h1⟩ | false=>exact nX! h1 r1 wz
  | _=>exact h1.elim
theorem zoU(ha:fG! a):W! (.UnaryOp .Not a pos) (zqH fa):= yk (zq2 ha) λO H Q ⟨Y,ρ,s,r,en,h⟩=>by
  refine yI (k:=lg! (match x with | .bl k=>et! (D.bl (!k)) s1 | _=>.no)) r en h _ λv H1 Y1 s1 d r1 av dn stp h1=>?_;cases d with
  | bl k=>
   cases kO dn;exact aA! k (nX! h1 r1 wz) | _=>exact h1.elim
noncomputable def zkN(fa fb:FT):FT:=bW! (gk! s) (λx s1=>aG! x fK! (T! t!))
noncomputable def fOr(fa fb:FT):FT:=bW! (gk! s) (λx s1=>aG! x (T! c!) fK!)
noncomputable def z47(fa:FT):FT:=bW! (gk! s) (λx s1=>T! (!x))
def RW(X:Cx)(E:XK)(e:Expr)(f:FT):j!:=PW X e (tT B! E f)
theorem RW.rt(h:RW X E e f):RT X E e f:=PW.pt h
theorem zkW(h:PW X e t)(i:∀O H Q,t' O H Q->t O H Q):PW X e t':=λwh ae s O H Q I q=>h wh ae s O H Q I (i O H Q q)
theorem zgz(h:RT X E a f):RW X E (g3! .And [a]) f:=zn6 h
theorem zaU(h:RT X E a f):RW X E (g3! .Or [a]) f:=zp9 h
theorem w_and(ha:RT X E a fa)(hb:RW X E (g3! .And (b::jI)) fb):RW X E (g3! .And (a::b::jI)) (zkN fa fb):= zkW (zp6 ha hb) λO H Q ⟨Y,ρ,s,r,en,h⟩=>by
  refine z6f (k:=lg! (aG! x fK! (T! t!))) r en h _ λv H1 Y1 s1 r1 av stp h1=>?_;cases v with
  | true=>exact⟨Y1,ρ,s1,r1,av,h1⟩ | false=>exact ri! rfl
theorem zk4(ha:RT X E a fa)(hb:RW X E (g3! .Or (b::jI)) fb):RW X E (g3! .Or (a::b::jI)) (fOr fa fb):= zkW (zst ha hb) λO H Q ⟨Y,ρ,s,r,en,h⟩=>by
  refine z6f (k:=lg! (aG! x (T! c!) fK!)) r en h _ λv H1 Y1 s1 r1 av stp h1=>?_;cases v with
  | false=>exact⟨Y1,ρ,s1,r1,av,h1⟩ | true=>exact ri! rfl
theorem kZ(ha:RT X E a fa):RT X E (.UnaryOp .Not a pos) (z47 fa):= zhG (zoC ha) λO H Q ⟨Y,ρ,s,r,en,h⟩=>z6f (k:=lg! (T! (!x))) r en h _ λv H1 Y1 s1 r1 av stp h1=>ri! rfl
theorem qL(h:W! a f)(he:autoParam (∀whole,pX! a aX! whole=(do let v <- whole;standAt a.pos;nM! [v] (truthy v))) aIr):RT X E a (tOf f):= zhG (zpT h he) λO H Q h=>zde h
noncomputable def eIf(ft:FT)(fa fb:FE):FE:=bW! (ft ρ s) (λx s1=>aG! x (gk! s1) fK!)
theorem zqw(hc:RT X E c ft)(ha:fG! a)(hb:W! b fb):W! (.IfExp c a b pos) (eIf ft fa fb):= yk (zjk hc ha hb) λO H Q ⟨Y,ρ,s,r,en,h⟩=>z6f (k:=lg! (aG! x (gk! s1) fK!)) r en h _ λv H1 Y1 s1 r1 av stp h1=>by cases v with
  | true=>exact⟨Y1,ρ,s1,r1,av,h1⟩ | false=>exact⟨Y1,ρ,s1,r1,av,h1⟩
theorem xK(ha:fG! a)(hb:W! b fb)(hs:zcL b:=by intro _ _;rfl):W! (mi! a b) (c5! fa fb):=by
 obtain⟨r,h1,h2⟩:=zuY;exact yk (zp4 h1 ha hb hs) λO H Q h=>zeh h2 h
noncomputable def zm:FA:=λ_ s=>k! []
noncomputable def zb(fa:FE)(fr:FA):FA:=bW! (gk! s) (λx s1=>z! (fr ρ s1) (λxs s2=>b2! (x::xs)))
theorem zh:RA X E [] zm:=zkM z0v λO H Q ⟨Y,ρ,s,r,en,h⟩=>eB! yj.nil
theorem qV(ha:fG! e)(hr:RA X E es fr)(hs:y! (aq! (e::es)=dF!::if!)):RA X E (e::es) (zb fa fr):= zkM (wD ha hr hs) λO H Q ⟨Y,ρ,s,r,en,h⟩=>by exact yI (k:=lg! (z! (fr ρ s1) (λxs s2=>b2! (x::xs)))) r en h _ λv H1 Y1 s1 d r1 av dn stp h1=>(qo (k:=fun ρ xs s2=>b2! (d::xs)) r1 av h1 _ λvs H2 Y2 s2 ds r2 aY ax ag h2=>(h2.here r2 (o3! lD! ax)))
noncomputable def uP(f:FA):FE:=bW! aK! (i5! (aa! j8! (T! aD!)))
theorem wB(h:RA X E es f):W! (hv! es x1 pos) (uP f):= yk (zkI h) λO H Q ⟨Y,ρ,s,r,en,h⟩=>by
  refine qo (k:=m7! (aa! j8! (et! (gv! xs) s1))) r en h _ λvs H2 Y2 s2 ds r2 aY ax ag h2=>?_;split at h2
  ·rename_i hl;exact⟨by rw[ax.length];exact kM hl,z3V r2 h2 ax⟩
  ·exact h2.elim
noncomputable def kY(f:FA):FE:=bW! aK! (i5! (aa! j8! (T! cD!)))
theorem vQ(h:RA X E es f):W! (.List es pos) (kY f):= yk (zlx h).freeze λO H Q ⟨Y,ρ,s,r,en,h⟩=>by
  refine qo (k:=m7! (aa! j8! (et! (D.lst xs) s1))) r en h _ λvs H2 Y2 s2 ds r2 aY ax ag h2=>?_;split at h2
  ·rename_i hl;exact⟨by rw[ax.length];exact kM hl,z04 r2 h2 ax⟩
  ·exact h2.elim
noncomputable def z9Z(f:FA):FE:=bW! aK! (i5! (aa! (j8!/\c0! xs) (.ok sm! (s1++[xs]))))
theorem zfB{Q:VK}(r:cJ!)(h:dC! H Y (Den mg) (gG! (s++[xs])) Q)(hf:c0! xs)(hd:he!):∀p,gl!->Q b9! (fo! ci!):=bo! (by exact h _ _ _ (vj.layL r hp hd hf) ⟨p,rfl,by rw[<- r.len];simp,vs,yw⟩)
theorem z7C(h:RA X E es f):W! (.List es pos) (z9Z f):= yk (zlx h) λO H Q ⟨Y,ρ,s,r,en,h⟩=>by
  refine qo (k:=m7! (aa! (j8!/\c0! xs) (et! (D.loc s1.length) (s1++[xs])))) r en h _ λvs H2 Y2 s2 ds r2 aY ax ag h2=>?_;split at h2
  ·rename_i hl;exact⟨by rw[ax.length];exact kM hl.1,zfB r2 h2 hl.2 ax⟩
  ·exact h2.elim
def z1I(X:Cx)(E:XK)(r:aU!->Hp->ej!)(g:C!->bn!):j!:= ∀H Y s ds vs (Q:VK),Rep B! H Y s->yj B! H Y ds vs->iL! B! H Y j2! (g ds s) Q->r vs H Q
noncomputable def zg(g:C!->bn!)(f:FA):FE:=bW! aK! (i5! (g xs s1))
theorem zF{p:Pos} {id:String} (hc:∃r,je! X id r/\z1I X E r g) (hg:eL!) (hm:dx! x) (hv:k4! x=hH! id) (ha:RA X E (e::es) f) (hn:jK! (lB! x)) (aG:b8! (x==cz!)) (he:y! (aq! (e::es)=dF!::if!)) (au:dU! es (·.1)):W! (c9! x p (e::es)) (zg g f):=by
 obtain⟨r,h1,h2⟩:=hc;exact yk (z2F h1 hg hm hv ha hn aG he au) λO H Q ⟨Y,ρ,s,r,en,h⟩=> qo (k:=m7! (g xs s1)) r en h _ λvs H2 Y2 s2 ds r2 aY ax ag h3=>h2 H2 Y2 s2 ds vs Q r2 ax h3
theorem yr{p:Pos} (hc:∃r,we X j4! r/\z1I X E r g) (hg:eL!) (hm:dx! x) (hv:kz! x j4!) (ha:RA X E (e::es) f) (hn:jK! (lB! x)) (aG:b8! (x==cz!)) (he:y! (aq! (e::es)=dF!::if!)) (au:dU! es (·.1)):W! (c9! x p (e::es)) (zg g f):=by
 obtain⟨r,h1,h2⟩:=hc;exact yk (zhz h1 hg hm hv ha hn aG he au) λO H Q ⟨Y,ρ,s,r,en,h⟩=> qo (k:=m7! (g xs s1)) r en h _ λvs H2 Y2 s2 ds r2 aY ax ag h3=>h2 H2 Y2 s2 ds vs Q r2 ax h3
theorem z1B(h:pD! [d]):∃v,vs=[v]/\fN!:=by
 obtain⟨v,r,rfl,h1,rfl⟩:=h;exact aA! v h1
theorem za4(h:pD! [d,d']):∃v v',vs=[v,v']/\fN!/\j3! d' v':=by
 obtain⟨v,r,rfl,h1,v',r',rfl,h2,rfl⟩:=h;exact gB! v v' h1 h2
noncomputable def yM:C!->bn!
 | [d],s=>match zV s d with | some xs=>u! v! | none=>.no
 | _,_=>.no
theorem vh:∃r,je! X "len" r/\z1I X E r yM:=jN! zaL (by
 unfold yM at h;split at h
 ·split at h
  ·rename_i d xs e;obtain⟨v,rfl,dn⟩:=kU!;obtain⟨a,ws,rfl,q1,q2⟩:=jc r e dn;exact gB! a ws q1 (by rw[q2.length];exact eB! yB)
  ·exact h.elim
 ·exact h.elim)
noncomputable def zW:C!->bn!
 | [d],s=>match zV s d with | some xs=>k! aD! | none=>.no
 | _,_=>.no
theorem yV:∃r,we X du! r/\z1I X E r zW:=jN! z9L (by match ds,hd,h with
 | [],_,h=>exact h.elim | _::_::_,_,h=>exact h.elim | [d],hd,h=>
  obtain⟨v,rfl,dn⟩:=kU!;simp only[zW]at h;cases e:zV s d with
  | none=>rw[e]at h;exact h.elim | some xs=>
   rw[e]at h;cases d with
   | tup ys=>
    simp only[zV,_y]at e;subst e;obtain⟨a,ws,rfl,q1,q2⟩:=kW dn;exact eS! a ws (d8! q1 (eB! dn)) | lst ys=>
    obtain⟨a,ws,rfl,q1,q2⟩:=yn (d:=ib!) r e dn;exact eS! a ws (w! ⟨w! q1,z3V r h q2⟩) | loc l=>
    obtain⟨a,ws,rfl,q1,q2⟩:=yn (d:=ea!) r e dn;exact eS! a ws (w! ⟨w! q1,z3V r h q2⟩) | scr ys=>
    simp only[zV,_y]at e;subst e;obtain⟨a,ws,rfl,q1,q2⟩:=zl9 dn;exact eS! a ws (w! ⟨q1,z3V r h q2⟩) | _=>simp[zV]at e)
def z6W:C!->bn!
 | [d],s=>match zV s d with | some xs=>k! cD! | none=>.no
 | _,_=>.no
theorem zgc:∃r,we X c1! r/\z1I X E r z6W:=jN! zbR.freeze (by
 unfold z6W at h;split at h
 ·split at h
  ·rename_i d xs e;obtain⟨v,rfl,dn⟩:=kU!;obtain⟨a,ws,rfl,q1,q2⟩:=jc r e dn;exact gB! a ws q1 (z04 r h q2)
  ·exact h.elim
 ·exact h.elim)
def zdf:C!->bn!
 | [.int i],s=>u! i | [.bl b],s=>u! (ai! b 1 0) | _,_=>.no
theorem zmz:∃r,we X (aF! ee!) r/\z1I X E r zdf:=jN! zh6 (by
 unfold zdf at h;split at h
 ·rename_i i;obtain⟨v,rfl,dn⟩:=kU!;cases yq dn;exact w! (aA! i (eB! yB))
 ·rename_i b;obtain⟨v,rfl,dn⟩:=kU!;cases kO dn;exact R! (aA! b (eB! yB))
 ·exact h.elim)
noncomputable def zjO:C!->bn!
 | [.int i,.int j],s=>u! (ai! (j > i) j i) | _,_=>.no
noncomputable def zka:C!->bn!
 | [.int i,.int j],s=>u! (ai! (j<i) j i) | _,_=>.no
theorem zqv(hc:bY!):∃r,je! X nq! r/\z1I X E r zjO:=jN! (zgW hc) (by
 unfold zjO at h;split at h
 ·rename_i i j;obtain⟨v,v',rfl,d1,d2⟩:=za4 hd;cases yq d1;cases yq d2;exact eS! i j (eB! yB)
 ·exact h.elim)
theorem zpy(hc:bY!):∃r,je! X nr! r/\z1I X E r zka:=jN! (zfN hc) (by
 unfold zka at h;split at h
 ·rename_i i j;obtain⟨v,v',rfl,d1,d2⟩:=za4 hd;cases yq d1;cases yq d2;exact eS! i j (eB! yB)
 ·exact h.elim)
abbrev FO:=Ev->fF! df!
def oD(_:Hp)(_:bk!)(a b:df!):j!:=a=b
def tO(mg:Gm)(E:XK)(f:FO):TO:=gt! (∃Y ρ s,cJ!/\fr! H Y/\dC! H Y oD aK! Q)
def RO(X:Cx)(E:XK)(e:rQ!)(f:FO):j!:=PO X e (tO B! E f)
theorem zkK(h:PO X o t)(i:∀O H Q,t' O H Q->t O H Q):PO X o t':=λae s O H Q I q=>h ae s O H Q I (i O H Q q)
noncomputable def zD:FO:=λ_ s=>k! a!
noncomputable def yy(f:FE):FO:=eu! (dV! (match d with | .int i=>T! ig! | _=>.no))
theorem xO:RO X E a! zD:=zkK zgy λO H Q ⟨Y,ρ,s,r,en,h⟩=>eB! rfl
theorem xx(h:e0! f):RO X E A! (yy f):=zkK (zn4 h) λO H Q ⟨Y,ρ,s,r,en,h⟩=>by
 refine yI (k:=km! (match d with | .int i=>T! ig! | _=>.no)) r en h _ λv H1 Y1 s1 d r1 av dn stp h1=>?_;cases d with
 | int i=>cases yq dn;exact aA! i (ri! rfl) | _=>exact h1.elim
noncomputable def cutD(xs:C!)(lo hi:df!):C!:=(k3! (hZ! 0 lo)).take (hZ! v! hi-hZ! 0 lo)
theorem z92(h:he!)(lo hi:df!):f9! H Y (cutD xs lo hi) (znW vs lo hi):=by
 unfold cutD znW;rw[h.length];exact (h.drop _).take _
noncomputable def dSl(x:D)(lo hi:df!)(s:Sto):R D:=match x with
 | .tup xs=>bf! (cutD xs lo hi) | x=>match lM! x with | some xs=>bw! (cutD xs lo hi) | none=>.no
noncomputable def eSl(fe:FE)(fl fh:FO):FE:=bW! (fe ρ s) (λx s1=>z! (fl ρ s1) (λlo s2=>z! (fh ρ s2) (λhi s3=>dSl x lo hi s3)))
theorem zcQ{k:Ev->df!->fF! α} {Q:β->ck!} (r:cJ!)(en:fr! H Y) (h:dC! H Y Dn (jS! (k ρ)) Q)(K:df!->ck!) (hK:∀v H1 Y1 s1,Rep mg H1 Y1 s1->fr! H1 Y1->vj mg H Y H1 Y1 s1->dC! H1 Y1 Dn (k ρ v s1) Q->K v H1):tO mg E f O H K:= ⟨Y,ρ,s,r,en,c2! h (λv H1 ⟨Y1,s1,d,stp,dn,q⟩=>hK v H1 Y1 s1 ds! h4! stp (by cases (dn);exact q))⟩
theorem yK{lo hi:rQ!} (he:e0! fe)(hl:RO X E lo fl)(hh:RO X E hi fh):W! (mi! e (.Slice lo hi a! p2)) (eSl fe fl fh):= yk (zdK ((zoY.or znC).or zlU.freeze) he hl hh) λO H Q ⟨Y,ρ,s,r,en,h⟩=>by
  refine yI (k:=lg! (z! (fl ρ s1) (λlo s2=>z! (fh ρ s2) (λhi s3=>dSl x lo hi s3)))) r en h _ λv H1 Y1 s1 d r1 av dn stp h1=>(zcQ (k:=fun ρ lo s2=>z! (fh ρ s2) (λhi s3=>dSl d lo hi s3)) r1 av h1 _ λlo H2 Y2 s2 r2 aY ag h2=>?_);refine zcQ (k:=fun ρ hi s3=>dSl d lo hi s3) r2 aY h2 _ λhi H3 Y3 s3 r3 nj aq h3=>?_;have cB:=(lD!).mono aq;cases d with
  | tup xs=>
   obtain⟨a,vs,rfl,q1,q2⟩:=kW cB;have ij:iL! B! H3 Y3 j2! (.ok (p! (cutD xs lo hi)) s3) Q:=h3;by_cases hw:nR! dq! 0 lo=0/\nR! dq! dq! hi=dq!
   ·refine w! (R! ⟨a,vs,rfl,q1,hw,?_⟩);rw[(show cutD xs lo hi=xs from by
     unfold cutD;rw[<- q2.length,hw.1,hw.2];simp[q2.length])]at ij;exact ij.here r3 cB
   ·exact w! (w! ⟨a,vs,rfl,q1,hw,z3V r3 ij (z92 q2 lo hi)⟩) | lst xs=>
   obtain⟨a,vs,rfl,q1,q2⟩:=yn r3 rfl cB;exact R! ⟨a,vs,rfl,w! q1,z04 r3 h3 (z92 q2 lo hi)⟩ | loc l=>
   simp only[dSl]at h3;split at h3
   ·rename_i xs e;obtain⟨a,vs,rfl,q1,q2⟩:=yn r3 e cB;exact R! ⟨a,vs,rfl,w! q1,z04 r3 h3 (z92 q2 lo hi)⟩
   ·exact h3.elim | _=>exact h3.elim
end
abbrev Mir:=C!->bn!
def ziQ(mg:Gm)(M:Mir):Sp:=λvs H Q E=>∃Y s ds,cJ!/\iO!/\dC! H Y (Den mg) (M ds s) Q
def Has(P:Program)(w:World)(K:W.Frag)(mg:Str->aN!)(base:Heap)(CX:CXT)(x:Str)(n:Nat)(M:Mir):j!:= ∃f fd ps,z99 P w K mg P! CX n f fd ps (ziQ ⟨mg,K⟩ M)/\j6! K ps []/\oD! K f=c!/\mg x=a3! f
section
variable {X:Cx}{E:XK}{e a b c:Expr}{es:aC!}{pos:Pos}{CX:CXT}
theorem zqm{p:Pos} (F:Has aR! X.w X.K e4! eP! CX x n M) (hr:z1L n X.A) (hx:kF! X E) (hg:eL!) (ha:RA X E (e::es) f) (aG:b8! (x==cz!)) (he:y! (aq! (e::es)=dF!::if!)) (au:dU! es (·.1)):W! (c9! x p (e::es)) (zg M f):=by
 obtain⟨fa,fd,ps,F,hb,hk,hm⟩:=F;refine yk (zmc F hr hg hm hk hb cn! hx ha aG he au) λO H Q ⟨Y,ρ,s,r,en,h⟩=>(qo (k:=m7! (M xs s1)) r en h _ λvs H2 Y2 s2 ds r2 aY ax ag h3=>?_);rw[_aH];exact⟨Y2,s2,ds,r2,ax,h3⟩
noncomputable def zA(f g:FS):FS:=bW! aK! (λfl s1=>match fl with | .nx ρ'=>g ρ' s1 | fl=>T! fl)
noncomputable def yY:FS:=eu! (a6! ρ)
variable {st:Stmt}{rs:ng!}
theorem zps{D:zmR} (h:tS mg E (zA f g) D O H):ztH (tS mg E f) (tS mg E g) D O H:=by
 obtain⟨Y,ρ,s,r,en,h⟩:=h;refine⟨Y,ρ,s,r,en,c2! h (λfv H1 ⟨Y1,s1,fl,stp,dn,q⟩=>?_)⟩;cases fl with
 | nx ρ'=> cases fv with
  | nx O'=>exact⟨Y1,ρ',s1,ds!,dn,q⟩ | _=>exact bV! dn
 | rt d=> cases fv with
  | rt v=>exact okR.here (Q:=zgY D) q stp.rep dn | _=>exact bV! dn
 | bk ρ'=> cases fv with
  | bk v=>exact okR.here (Q:=zgY D) q stp.rep dn | _=>exact bV! dn
 | ct ρ'=> cases fv with
  | ct v=>exact okR.here (Q:=zgY D) q stp.rep dn | _=>exact bV! dn
theorem yE:RSs X E [] yY:=zh7 zm0 λD O H ⟨Y,ρ,s,r,en,h⟩=>okR.here (b:=m8! O) h r en
theorem zi(h1:RS X E st f)(h2:RSs X E rs g):RSs X E (st::rs) (zA f g):=zh7 (ziz h1 h2) λD O H h=>zps h
theorem zp(h1:RS X E st f):RSs X E [st] f:=zlZ h1
noncomputable def fNo:FS:=λ_ _=>.no
theorem z5D:RS X E st fNo:=kL ziJ λD O H ⟨_,_,_,_,_,h⟩=>h
noncomputable def wk(f:FE):FS:=bW! aK! (λ_ s1=>hl! ρ)
theorem wN(he:e0! f)(hs:y! (md! e a! nN!=mo!)):RS X E (.Expr e pos) (wk f):= kL (zn1 he hs) λD O H ⟨Y,ρ,s,r,en,h⟩=>yI (k:=fun ρ _ s1=>et! (Fl.nx ρ) s1) r en h _ λv H1 Y1 s1 d r1 av dn stp h1=>okR.here (b:=m8! O) h1 r1 av
noncomputable def xc(f:FE):FS:=eu! (dV! (T! (.rt d)))
theorem zQ(he:e0! f):RS X E (.Return A! pos) (xc f):= kL (zoD he) λD O H ⟨Y,ρ,s,r,en,h⟩=>yI (k:=km! (et! (Fl.rt d) s1)) r en h _ λv H1 Y1 s1 d r1 av dn stp h1=>okR.here (b:=FlV.rt v) h1 r1 dn
noncomputable def fIf(ft:FT)(f g:FS):FS:=bW! (ft ρ s) (λx s1=>aG! x (f ρ s1) (g ρ s1))
theorem z02(hc:RT X E c ft)(ha:RSs X E as f)(hb:RSs X E bs g):RS X E (.If c as bs pos) (fIf ft f g):= kL (zt6 hc ha hb) λD O H ⟨Y,ρ,s,r,en,h⟩=>z6f (k:=lg! (aG! x (f ρ s1) (g ρ s1))) r en h _ λv H1 Y1 s1 r1 av stp h1=>by cases v with
  | true=>exact⟨Y1,ρ,s1,r1,av,h1⟩ | false=>exact⟨Y1,ρ,s1,r1,av,h1⟩
abbrev FG:=D->Ev->fF! Ev
def tG(mg:Gm)(E:XK)(f:FG):TG:=λv O H Q=>∃Y ρ s d,cJ!/\fr! H Y/\fN!/\dC! H Y (kH mg) (f d ρ s) (λO' H'=>Q O' H')
def RG(X:Cx)(E:XK)(tg:Expr)(f:FG):j!:=PG X tg (tG B! E f)
theorem zkm(h:PG X tg t)(i:∀v O H Q,t' v O H Q->t v O H Q):PG X tg t':=λae s O H v u Q I r q=>h ae s O H v u Q I r (i v O H Q q)
noncomputable def yh(i:Nat):FG:=λd ρ s=>k! (jq! i!)
theorem uG(i:Nat) (hN:X.N.Nodup)(hi:y! (gd! x))(hx:mf! (h0! x))(hf:h2! (g8! x\/fB! x)):RG X E mF! (yh i):= zkm (zS hN hi hx hf) λv O H Q ⟨Y,ρ,s,d,r,en,dn,h⟩=>g4! h (en.set dn i)
noncomputable def yN(i j:Nat):FG:=λd ρ s=>match d with | .tup [x,y]=>k! (iK! (jq! dR!) j y) | _=>.no
theorem z24(i j:Nat){x y:Str}{px py:Pos}{kt:Nat}(hc:bY!)(hN:X.N.Nodup)(hi:y! (gd! x))(hj:y! (E! X.N j y))(hx:mf! (h0! x))(hy:mf! (h0! y)) (hf:h2! (g8! x\/fB! x))(ik:h2! (g8! y\/fB! y)): RG X E (jp! [ff! px,gm!] pos) (yN i j):= zkm (zlm hc (z5o (zS hN hi hx hf) (z5o (zS hN hj hy ik) zhs))) λv O H Q ⟨Y,ρ,s,d,r,en,dn,h⟩=>by
  unfold yN at h;split at h
  ·obtain⟨p,vs,rfl,q1,q2⟩:=kW dn;obtain⟨v1,v2,rfl,e1,e2⟩:=za4 q2;exact⟨p,[v1,v2],rfl,q1,rfl,v1,[v2],rfl,v2,[],rfl,rfl,g4! h ((en.set e1 i).set e2 j)⟩
  ·exact h.elim
noncomputable def yu(i:Nat)(f:FE):FS:=eu! (dV! (hl! (jq! i!)))
theorem zR(i:Nat) {cD:Pos} (hN:X.N.Nodup)(he:e0! f)(hi:y! (gd! x))(hx:mf! (h0! x))(hs:y! (md! e (b! (ff! cD)) nN!=mo!)) (hf:h2! (g8! x\/fB! x)):RS X E (.Assign [ff! cD] e pos) (yu i f):= kL (zqj hN hi hx he hs hf) λD O H ⟨Y,ρ,s,r,en,h⟩=>yI (k:=km! (et! (Fl.nx (jq! i!)) s1)) r en h _ λv H1 Y1 s1 d r1 av dn stp h1=>okR.here (b:=m8! (lK! i)) h1 r1 (av.set dn i)
noncomputable def zir(f:FE)(g:FG):FS:=eu! (dV! (z! (g d ρ s1) (fun ρ' s2=>F! ρ' s2)))
theorem zc6(he:e0! f)(hg:RG X E tg g)(hs:y! (rB! [tg] e aX!=mo!))(hw:y! (rE! [tg] e=dH! a!)) (h1:y! ((oq! [tg]).map (·.2)=[assign tg aX!])):RS X E (.Assign [tg] e pos) (zir f g):= kL (zl1 he hg hs hw h1) λD O H ⟨Y,ρ,s,r,en,h⟩=>yI (k:=km! (z! (g d ρ s1) (fun ρ' s2=>et! (Fl.nx ρ') s2))) r en h _ λv H1 Y1 s1 d r1 av dn stp h1=> ⟨Y1,ρ,s1,d,r1,av,dn,c2! h1 (λO' H' ⟨Y2,s2,ρ',ag,aY,q⟩=>okR.here (b:=m8! O') q ag.rep aY)⟩
noncomputable def zqF(i j:Nat)(f:FA):FS:=bW! aK! (ix! (match ds with | [x,y]=>hl! (iK! (jq! dR!) j y) | _=>.no))
theorem zq9(i j:Nat){x y:Str}{px py pt:Pos}{kt k2:Nat}{d8:Pos} (hc:bY!)(hN:X.N.Nodup)(ha:RA X E [a,b] f)(hi:y! (gd! x))(hj:y! (E! X.N j y))(aJ:jK! (i≠j)) (hx:y! (fB! x))(hy:y! (fB! y)) (hw:y! (rE! [jp! [ff! px,gm!] pt] (hv! [a,b] k2 d8)=dH! (b! [x,y]))) (hs:y! (rB! [jp! [ff! px,gm!] pt] (hv! [a,b] k2 d8) aX!=mo!)): RS X E (.Assign [jp! [ff! px,gm!] pt] (hv! [a,b] k2 d8) pos) (zqF i j f):= kL (zpf hc hN hi hj aJ hx hy ha hw hs) λD O H ⟨Y,ρ,s,r,en,h⟩=>by
  refine qo (k:=fun ρ ds s1=>match ds with | [x,y]=>et! (Fl.nx (iK! (jq! dR!) j y)) s1 | _=>.no) r en h _ λvs H1 Y1 s1 ds r1 av dn stp h1=>?_;match ds,dn,h1 with
  | [],_,h1=>exact h1.elim | [_],_,h1=>exact h1.elim | _::_::_::_,_,h1=>exact h1.elim | [d1,d2],dn,h1=>
   obtain⟨v1,v2,rfl,e1,e2⟩:=za4 dn;exact eS! v1 v2 (okR.here (b:=m8! (iK! (O.set i (b! v1)) j v2)) h1 r1 ((av.set e1 i).set e2 j))
noncomputable def z0y(fo fi fv:FE):FS:=bW! (fv ρ s) (λd s1=>z! (fo ρ s1) (λo s2=>z! (fi ρ s2) (λi s3=>match o,i with
 | .loc l,.int k=>match s3[l]? with
  | some xs=>match kA! k with
   | some j=>aa! mw! (F! ρ (s3.set l (ip! j d))) | none=>.no
  | none=>.no
 | _,_=>.no)))
theorem zae:∀{xs:List D}{d:D}{j:Nat},c0! xs->mw!->c0! (ip! j d)
 | [],_,_,_,_=>rfl | x::xs,d,0,h,hd=>by
  simp only[flC,flN,_Q,_C]at h ⊢;exact as! hd h.2 | x::xs,d,j+1,h,hd=>by
  simp only[flC,flN,_Q,_F]at h ⊢;exact⟨h.1,zae h.2 hd⟩
theorem z4g:∀{xs ys:List D},c0! xs->c0! ys->c0! (xs++ys)
 | [],_,_,h=>h | x::xs,ys,h,h'=>by
  simp only[flC,flN,_Q,_bA]at h ⊢;exact⟨h.1,z4g h.2 h'⟩
theorem z0A(hv:e0! fv)(ho:W! o fo)(hi:W! i fi) (ha:∀v,assign (rb! o i) aX! v=(do
   let ov <- nM! [v] gg! let iv <- nM! [v,ov] (g0! i)
   standAt p1
   nM! [v,ov,iv] (setItem ov iv v)
   release [v,ov,iv] []):=by intro _;rfl) (hs:y! (rB! [rb! o i] e aX!=mo!))(hw:y! (rE! [rb! o i] e=dH! a!)) (h1:y! ((oq! [rb! o i]).map (·.2)=[assign (rb! o i) aX!])):RS X E (.Assign [rb! o i] e pos) (z0y fo fi fv):= kL (zl1 hv (zo5 ho hi set_list ha) hs hw h1) λD O H ⟨Y,ρ,s,r,en,h⟩=>by
  refine⟨Y,ρ,s,r,en,c2! h (λv H1 ⟨Y1,s1,d,stp,dn,h1⟩=>⟨Y1,ρ,s1,ds!,h4!,c2! h1 (λov H2 ⟨Y2,s2,od,ag,ax,h2⟩=>⟨Y2,ρ,s2,i6!,(h4!).mono ag,c2! h2 (λiv H3 ⟨Y3,s3,id,aq,cB,h3⟩=>?_)⟩)⟩)⟩;have dv:=(lD!).mono aq;have nq:=ax.mono aq;cases od with
  | loc l=> cases id with
   | int k=>
    simp only at h3;split at h3
    ·rename_i xs ex;split at h3
     ·rename_i j ej;split at h3
      ·rename_i hf;cases yq cB;obtain⟨a,rfl,e1,ka⟩:=nq;obtain⟨vs,q1,q2⟩:=aq.rep.at_ ex e1 ka;have bF:=vj.put aq.rep e1 ka (q2.set j dv) (zae (aq.rep.flat xs (_u ex)) hf);exact⟨a,vs,k,j,rfl,rfl,q1,by rw[q2.length];exact ej,h3 (.nx O) _ _ bF ((((h4!).mono ag).mono aq).mono bF)⟩
      ·exact h3.elim
     ·exact h3.elim
    ·exact h3.elim | _=>exact h3.elim
  | _=>exact h3.elim
noncomputable def zcH(fo fv:FE):FE:=bW! (fo ρ s) (λo s1=>match o with
 | .loc l=>z! (fv ρ s1) (λd s2=>match s2[l]? with
  | some xs=>aa! (mw!/\v!<cap) (.ok at! (nZ! l (xs++[d]))) | none=>.no)
 | _=>.no)
theorem kB{ap:Pos} (ho:W! o fo)(hv:e0! fv)(am:y! (lw! o "append" gg!=gg!)) (aH:c6! (hd! (hC! pos [e]) (! x.1)&&hd! (no! pos []) (iq! x.1) && bi! (r! [e]+r! ([]:gz!)+(nd! ([]:gz!) 0 1)<30))) (ai:c6! (r8! nN!))(hs:y! (aq! [e]=dF!::aq! []))(aw:dU! [] (·.1)): W! (e6! (ml! o "append") [e] [] pos) (zcH fo fv):= yk (znw _bR PySem.F.slot_list_append PySem.F.type_list_append zh2 ho (wD hv z0v hs) am aH ai hs aw) λO H Q ⟨Y,ρ,s,r,en,h⟩=>by
  refine⟨Y,ρ,s,r,en,c2! h (λov H1 ⟨Y1,s1,od,stp,dn,h1⟩=>?_)⟩;cases od with
  | loc l=>
   refine as! (by
    obtain⟨a,rfl,e1,vs,e2⟩:=dn;exact w! ⟨rfl,vs,w! (w! e2)⟩) ⟨Y1,ρ,s1,ds!,h4!,c2! h1 (λv H2 ⟨Y2,s2,d,ag,ax,h2⟩=>?_)⟩;split at h2
   ·rename_i xs ex;split at h2
    ·rename_i hf;obtain⟨a,rfl,e1,ka⟩:=lD!;obtain⟨vs,q1,q2⟩:=ag.rep.at_ ex e1 ka;refine⟨a,vs,v,rfl,rfl,q1,by rw[q2.length];exact zqg hf.2,h2 at! _ _ (vj.put i6! e1 ka (q2.append (yj.one ax)) (z4g (ag.rep.flat xs (_u ex)) (by simp[flC,flN,hf.1]))) (by rfl)⟩
    ·exact h2.elim
   ·exact h2.elim | _=>exact h1.elim
end
end Dd
namespace L2
theorem zpN(hl:U! l tl):PI X tg l (λO H R=>tl O H (hu! (∃a,x=ad!/\(((∃xs,SqL X.K H1 a xs)/\R (Itl X.K a) H1)\/((∃xs,SqT X.K H1 a xs)/\R (Itt X.K a) H1))))):=by
 refine λae s O H R I h=>thn (hl ae s O H _ I h) λv s1 ⟨x,H1,I1,r1,q1⟩=>?_;obtain⟨a,e,q⟩:=q1;subst e;cases r1;rcases q with⟨⟨xs,hq⟩,q⟩ | ⟨⟨xs,hq⟩,q⟩
 ·obtain⟨af,rv,p,hz⟩:=I1.list hq;refine wpAny_pyIter_list p.isList ⟨iv!,[iv!],_,_,H1,rfl,nO! (lI! _ e),zgV a _,eS! _ gN! rfl,ce! ?_,q⟩;have e:b=iv!:=by simpa using hb
  subst e;exact rC! ah! ah!
 ·obtain⟨af,rv,p,hz⟩:=I1.tuple hq;refine wpAny_pyIter_tuple (p) ⟨iv!,[iv!],_,_,H1,rfl,nO! (lI! _ e),zfb a _,eS! _ gN! rfl,ce! ?_,q⟩;have e:b=iv!:=by simpa using hb
  subst e;exact rC! ah! ah!
theorem z51.freeze(h:z51 X ae O C (zjg Q) acc s'):z51 X ae O C Q acc s':=by
 obtain⟨v,Hf,I,r,⟨a,xs,rfl,ha,q⟩,hm,f⟩:=h;obtain⟨af,n,rv,e,_⟩:=I.lst ha;refine⟨_,_,I.freeze ha e (by intro _ z;cases z) (by intro _ _ z;cases z) (by intro _ z;cases z) (by intro _ z;cases z),r,q _,hm,?_,f.2⟩;rw[zJ (λz=>by have:=f.1;rw[z,ha]at this;cases this)];exact f.1
theorem zcj{pos aF py:Pos} (N':al!)(mp:eC!)(hN:X.N.Nodup)(hy:gd! y)(cM:h0! y) (hc:bY!)(hi:PI X tg hV! wi)(hg:lF! cm! tg g)(ht:lC! cm! aC ti)(he:∀ex s H,PE cm! az te) (aV:jU!)(aR:∀y∈scope.names,jB! y.1=b! y.2) (aI:∀y∈scope.names,y.2=bK!->X.env.kindOf y.1=dk!\/X.env.kindOf y.1=b! bK!)(aW:kd! N' mp=c!) (hs:kT! (kL! x=kS!)) (cN:y! (md! (fL! [gj! 0]) (b! gm!) qb!=rf!)) (hf:h2! (g8! y\/fB! y)): PS X (.Assign [gm!] (fL! [gj! 0]) aF) (k9! (zkf wi mp g ti te O H (zjg λv H'=>D.nx (lK! i) H'))):=by
 intro ae s O H D I h;rw[exec_Assign_Name_used _ _ _ _ cN];refine _a (_cb (_a (_a (_Z (_bJ rfl hs (kC λy hy hf=>I.ok.has _ (aI y hy hf)) aV (λy hy hl=>by rw[aR y hy,hl]) (thn (hi ae s O H _ I h) λxv s₁ h₁=>thn h₁ λeP s₂ h₂=>?_)) (λ_ s' hq=>_m (_m hq)) λ_ _ e=>e))));obtain⟨it,fp,tn,J,H2,e,I2,T,bn,f2,W,w0,turn⟩:=h₂;subst e;refine z37 hc hg ht he aV aR aI aW I2 T bn f2 W w0 turn ?_;intro acc C s' hd;obtain⟨v,Hf,I3,r,q,⟨m,hm⟩,f⟩:=hd.freeze;exact _cP (z6N I3 hN hy cM r (λeR I4 ⟨a,sb,ha⟩=>⟨m,hm.sameBut sb (by
  rcases ha with z | z;·rw[z];exact f.2.1
  ·exact _bM (f.2.2.2.2.1 y a z)),λh' ie=>⟨_,Hf,z1K I4 f ie,q⟩⟩) hf)
end L2
namespace Dd
open L2
noncomputable abbrev ItD:=C!×f3! Nat C!
def okG(g:f3! Nat C!)(all:C!)(s:Sto):j!:=∀p∈g,E! s p.1 p.2
def zsB(mg:Gm)(H0:Hp)(Y0:bk!)(a:ItD)(J:It):j!:=∀H Y s,vj mg H0 Y0 H Y s->okG a.2 a.1 s->∀i:Nat, (∀d,aj! a.1 d->J.go i H/\∀x H',J.yld i H x H'->∃Y',vj mg H Y H' Y' s/\qX! H' Y' d x)/\(r! a.1<=i->J.stop i H)
abbrev FI:=Ev->fF! ItD
def tI(mg:Gm)(E:XK)(f:FI):TI:=λO H Rr=>∃Y ρ s,cJ!/\fr! H Y/\dC! H Y (zsB mg) aK! Rr
def RI(X:Cx)(E:XK)(tg it:Expr)(f:FI):j!:=PI X tg it (tI B! E f)
section
variable {X:Cx}{E:XK}{e a b c tg:Expr}{es:aC!}{pos:Pos}{CX:CXT}
theorem z7P(h:PI X tg it t)(i:∀O H Q,t' O H Q->t O H Q):PI X tg it t':=λae s O H Q I q=>h ae s O H Q I (i O H Q q)
noncomputable def zT(f:FE):FI:=eu! (dV! (match d with
 | .tup xs=>T! (xs,[]) | .lst xs=>T! (xs,[]) | .loc l=>match s1[l]? with | some xs=>T! (xs,[(l,xs)]) | none=>.no
 | _=>.no))
theorem wE(h:e0! f):RI X E tg e (zT f):=z7P (zpN h) λO H Q ⟨Y,ρ,s,r,en,h⟩=>by
 refine⟨Y,ρ,s,r,en,c2! h (λv H1 ⟨Y1,s1,d,stp,dn,h1⟩=>?_)⟩;have lst:∀(a:Addr)(xs:List D)(g:List (Nat×List D)),(∀H2 Y2 s2,vj B! H1 Y1 H2 Y2 s2->okG g xs s2->∃ws,SqL X.K H2 a ws/\yj B! H2 Y2 xs ws)->zsB B! H1 Y1 (xs,g) (Itl X.K a):=λa xs g hq H2 Y2 s2 ag hg i=>by
  obtain⟨ws,q1,q2⟩:=hq H2 Y2 s2 ag hg;refine⟨hY! ?_,λhl=>⟨ws,q1,by rw[q2.length];exact hl⟩⟩;obtain⟨v,e1,e2⟩:=q2.get hd;refine⟨⟨ws,v,q1,e1⟩,λx H' ⟨e3,y⟩=>?_⟩;subst e3;have e4:=y ws q1;rw[e1]at e4;cases e4;exact⟨Y2,.refl i6!,e2⟩
 have tup:∀(a:Addr)(xs:List D),(∀H2 Y2 s2,vj B! H1 Y1 H2 Y2 s2->∃ws,SqT X.K H2 a ws/\yj B! H2 Y2 xs ws)->zsB B! H1 Y1 (xs,[]) (Itt X.K a):=λa xs hq H2 Y2 s2 ag hg i=>by
  obtain⟨ws,q1,q2⟩:=hq H2 Y2 s2 ag;refine⟨hY! ?_,λhl=>⟨ws,q1,by rw[q2.length];exact hl⟩⟩;obtain⟨v,e1,e2⟩:=q2.get hd;refine⟨⟨ws,v,q1,e1⟩,λx H' ⟨e3,y⟩=>?_⟩;subst e3;have e4:=y ws q1;rw[e1]at e4;cases e4;exact⟨Y2,.refl i6!,e2⟩
 cases d with
 | tup xs=>
  obtain⟨a,vs,rfl,q1,q2⟩:=kW dn;refine aA! a (d8! (as! vs q1) (os! (tup a xs λH2 Y2 s2 ag=>?_)));obtain⟨a',ws,e,q3,q4⟩:=kW lD!;cases e;exact aQ! ws q3 q4 | lst xs=>
  obtain⟨a,vs,rfl,q1,q2⟩:=yn ds! rfl dn;refine aA! a (w! ⟨⟨vs,w! q1⟩,os! (lst a xs [] λH2 Y2 s2 ag _=>?_)⟩);obtain⟨a',ws,e,q3,q4⟩:=yn i6! rfl lD!;cases e;exact⟨ws,w! q3,q4⟩ | loc l=>
  simp only at h1;split at h1
  ·rename_i xs ex;obtain⟨a,vs,rfl,q1,q2⟩:=yn (d:=ea!) stp.rep ex dn;refine aA! a (w! ⟨⟨vs,w! q1⟩,os! (lst a xs [(l,xs)] λH2 Y2 s2 ag hg=>?_)⟩);obtain⟨a',ws,e,q3,q4⟩:=yn (d:=ea!) ag.rep (hg (l,xs) (by simp)) lD!;cases e;exact⟨ws,w! q3,q4⟩
  ·exact h1.elim | _=>exact h1.elim
end
section
variable {X:Cx}{E:XK}{e a b c tg:Expr}{es:aC!}{pos:Pos}{CX:CXT}
noncomputable def ym(n:Nat):C!:=aS! n (λ(k:Nat)=>aJ! (Z! k))
noncomputable def jB(f:FA):FI:=bW! aK! (ix! (match ds with
 | [.int j]=>aa! (-(2 ^ 62)<=j/\j<2 ^ 62) (T! (rU!,[])) | _=>.no))
theorem xZ(hg:oJ!)(hm:dx! e1!)(ha:RA X E [a] f)(hs:y! (aq! [a]=[dN! a])):RI X E tg (c9! e1! p [a]) (jB f):= z7P (zhZ hg hm ha hs) λO H Q ⟨Y,ρ,s,r,en,h⟩=>by
  refine⟨Y,ρ,s,r,en,c2! h (λvs H1 ⟨Y1,s1,ds,stp,dn,h1⟩=>?_)⟩;split at h1
  ·rename_i j;split at h1
   ·rename_i hj;obtain⟨v,rfl,d1⟩:=z1B dn;cases yq d1;refine⟨j,rfl,hj.1,hj.2,os! (λH2 Y2 s2 ag _ i=>⟨hY! ?_,λhl=>?_⟩)⟩
    ·have hi:i<kj!:=by simpa[ym] using (cE! hd)
     refine⟨hi,λx H' ⟨e1,e2⟩=>?_⟩;subst e1 e2;refine⟨Y2,.refl i6!,?_⟩;rw[(show d=aJ! i from by
      simp only[ym,_z,_aD hi,_af,_y]at hd;exact hd.symm)];exact _aK V.int (Int.zero_add _)
    ·rw[<- (show r! rU!=kj! from by simp[ym])];exact hl
   ·exact h1.elim
  ·exact h1.elim
open Classical in
noncomputable def yL(g:f3! Nat C!)(all:C!)(body:D->Ev->fF! Fl):C!->Ev->fF! Fl
 | [],ρ,s=>aa! (okG g all s) (a6! ρ) | x::xs,ρ,s=>aa! (okG g all s) (z! (body x ρ s) (λfl s1=>match fl with
   | .nx ρ'=>yL g all dI! xs ρ' s1 | .ct ρ'=>yL g all dI! xs ρ' s1 | .bk ρ'=>hl! ρ' | .rt d=>T! (.rt d)))
noncomputable def z4B(fi:FI)(fg:FG)(fb:FS):FS:=bW! (fi ρ s) (λit s1=>yL it.2 it.1 (d5! (fg d ρ s) (fb ρ' s')) it.1 ρ s1)
theorem kz(hp:PassesOwn (oy! X.w) X.A aX! X.xe)(hc:bY!)(hi:RI X E tg hV! fi)(hg:RG X E tg fg)(hb:RSs X E dI! fb) (hs:kT! (kL! x=kS!)):RS X E (.For tg hV! dI! [] pos) (z4B fi fg fb):= kL (zph hp hc hi hg hb hs) λD O H ⟨Y,ρ,s,r,en,h⟩=>by
  refine⟨Y,ρ,s,r,en,c2! h (λJ H1 ⟨Y1,s1,it,stp,ok,h1⟩=>?_)⟩;obtain⟨items,g⟩:=it;refine aQ! (λi m O H=>∃Y ρ s,vj B! H1 Y1 H Y s/\kH B! H Y ρ O/\m=jD!-i/\i<=jD!/\ iL! B! H Y (FlD B!) (yL g gU! (d5! (fg d ρ s) (fb ρ' s')) (items.drop i) ρ s) (zgY D)) ⟨jD!,Y1,ρ,s1,.refl ds!,h4!,by rfl,gM!,by exact h1⟩ ?_;rintro i m O H ⟨Y2,ρ2,s2,ag,aY,rfl,nr,h2⟩;by_cases bG:i<jD!
  ·right;rw[_bD bG,yL]at h2;split at h2
   ·rename_i hG;obtain⟨go,yl⟩:=((ok H Y2 s2 ag hG i).1 items[i] (_b bG));refine⟨go,λO' H'=>∃Y ρ s,vj B! H1 Y1 H' Y s/\kH B! H' Y ρ O'/\iL! B! H' Y (FlD B!) (yL g gU! (d5! (fg d ρ s) (fb ρ' s')) (items.drop (i+1)) ρ s) (zgY D), λO' H' ⟨Y3,ρ3,s3,q1,q2,q3⟩=>⟨jD!-(i+1),by omega,Y3,ρ3,s3,q1,q2,rfl,bG,q3⟩,λx H' y=>?_⟩;obtain⟨Y3,aq,cB⟩:=yl x H' y;refine⟨Y3,ρ2,s2,items[i],aq.rep,aY.mono aq,cB,c2! (okR.bind (Dn:=FlD B!) (okR.rebase h2 aq)) (λO5 H5 ⟨Y5,s5,ρ5,bP,en5,h5⟩=>?_)⟩;refine⟨Y5,ρ5,s5,bP.rep,en5,h5.imp λfv H6 ⟨Y6,s6,fl,cq,cT,q6⟩=>?_⟩;have fu := bL! (ag.trans aq) cq;cases fl with
    | nx ρ'=> cases fv with
     | nx O'=>exact⟨Y6,ρ',s6,fu,cT,q6⟩ | _=>exact bV! cT
    | ct ρ'=> cases fv with
     | ct O'=>exact⟨Y6,ρ',s6,fu,cT,q6⟩ | _=>exact bV! cT
    | bk ρ'=> cases fv with
     | bk O'=>exact okR.here (b:=m8! O') q6 cq.rep cT | _=>exact bV! cT
    | rt d=> cases fv with
     | rt v=>exact okR.here (Q:=zgY D) q6 cq.rep cT | _=>exact bV! cT
   ·exact h2.elim
  ·left;have e:i=jD!:=by omega
   subst e;rw[List.drop_length,yL]at h2;split at h2
   ·rename_i hG;exact⟨(ok H Y2 s2 ag hG _).2 ah!,okR.here (b:=m8! O) h2 ag.rep aY⟩
   ·exact h2.elim
end
end Dd
namespace Zz
def Sit(b:Bool)(h:Heap)(it l:Addr)(k:Nat):j!:=match b with
 | true=>h.IsListIter it l k | false=>h.IsTupleIter it l k
def Sco(b:Bool)(h:Heap)(l:Addr)(xs:cq!):j!:=match b with
 | true=>h.IsList l xs | false=>h.IsTuple l xs
theorem Sit.to(x:Sit b h it l k)(e:∀o,cx! it->dn! it):Sit b h' it l k:=by cases b with
 | true=>obtain⟨o,ho,r⟩:=x;exact cj! (e _ ho) r | false=>obtain⟨o,ho,r⟩:=x;exact cj! (e _ ho) r
theorem Sco.to(x:Sco b h l xs)(e:∀o,cx! l->dn! l):Sco b h' l xs:=by cases b with
 | true=>obtain⟨o,ho,r⟩:=x;exact cj! (e _ ho) r | false=>obtain⟨o,ho,r⟩:=x;exact cj! (e _ ho) r
theorem Sit.lt(x:Sit b h it l k):it<iW!:=by cases b with
 | true=>obtain⟨o,ho,r⟩:=x;exact _r ho | false=>obtain⟨o,ho,r⟩:=x;exact _r ho
theorem Sit.ob(x:Sit b h it l k):∃o,cx! it/\∀v,hU!≠.cell v:=by cases b with
 | true=>obtain⟨o,ho,_,d⟩:=x;exact cj! ho (λv z=>by rw[d]at z;cases z) | false=>obtain⟨o,ho,_,d⟩:=x;exact cj! ho (λv z=>by rw[d]at z;cases z)
section
variable {P:Program}{w:World}{A:Around}{E:bP!}{s:Shared}
theorem zow{it l:Addr}{k:Nat}{xs:cq!}{x:Value}{R:bP!}(h1:s.heap.IsTupleIter it l k)(h2:s.heap.IsTuple l xs)(e:E! xs k x) (q:∀h',h'.IsTupleIter it l (k+1)->Heap.SameBut it G! h'->R x {s with heap:=h'}):fY! P w A (r6! it) R E s:=by
 obtain⟨o,ho,hc,hd⟩:=id h1;obtain⟨ol,il,_,nl,im⟩:=h2;refine _a (_ae h1.typeIs _a1 (_at _a1 h1.typeIs F.entry_tuple_iterator_next ?_ (F.args_tuple_iterator_next_1 _)));show fk! _ _ (field j5! 0 >>= _) _ _;refine _a (pI! ho hd ?_);refine _a (pI! ho hd (_a (_a2 il im ?_)));simp only[_T,e];exact _a (wpAny_setField ho hd (by simp) (_m (aA! x (_m (q _ ⟨_,Heap.get?_update_self _ ho (Obj.isFreed_of_fields (Obj.data_mapFields hd _)),bL! (Obj.cls_mapFields ..) hc,by rw[Obj.data_mapFields hd];rfl⟩ (_bF ..))))))
theorem zeN{it l:Addr} {k:Nat} {xs:cq!} {R:bP!} (hh:ne!) (h1:s.heap.IsTupleIter it l k) (h2:s.heap.IsTuple l xs) (e:xs[k]? = a!) (q:∀h' e,Heap.ExtBut it G! h'->(∃o,dn! e/\fV!=r9!)->E (q! e) {s with heap:=h'}):fY! P w A (r6! it) R E s:=by
 obtain⟨o,ho,hc,hd⟩:=id h1;obtain⟨ol,il,_,nl,im⟩:=h2;refine _a (_ae h1.typeIs _a1 (_at _a1 h1.typeIs F.entry_tuple_iterator_next ?_ (F.args_tuple_iterator_next_1 _)));show fk! _ _ (field j5! 0 >>= _) _ _;refine _a (pI! ho hd (_a (pI! ho hd ?_)));refine _a (_a2 il im ?_);simp only[_T,e];refine _a (_cy (_a (wpAny_setField ho hd (by simp) (_a ?_))));refine _a (_aE ?_ (by size_fits));refine _a (wpAny_of_eq (by rfl) (_aE (_a (wpAny_handled ?_)) (by size_fits)));rw[hh];exact _a (_m (wpAny_throw (q _ _ (cY! ((_bF ..).extBut.push _) _) (b1! gN!))))
theorem nx{b:Bool}{it l:Addr}{k:Nat}{xs:cq!}{x:Value}{R:bP!}(h1:Sit b G! it l k)(h2:hF! b l xs)(e:E! xs k x) (q:∀h',Sit b h' it l (k+1)->Heap.SameBut it G! h'->R x {s with heap:=h'}):fY! P w A (r6! it) R E s:=by cases b with
 | true=>exact wpAny_nextOf_list_item h1 h2 e q | false=>exact zow h1 h2 e q
theorem zg9{b:Bool} {it l:Addr} {k:Nat} {xs:cq!} {R:bP!} (hh:ne!) (h1:Sit b G! it l k) (h2:hF! b l xs) (e:xs[k]? = a!) (q:∀h' e,Heap.ExtBut it G! h'->(∃o,dn! e/\fV!=r9!)->E (q! e) {s with heap:=h'}):fY! P w A (r6! it) R E s:=by cases b with
 | true=>exact wpAny_nextOf_list_end hh h1 h2 e q | false=>exact zeN hh h1 h2 e q
theorem zG(hs:Heap.SameBut a h h') (n:b≠a)(e:cx! b):dn! b:=hs.extBut _ _ n e
theorem zm6{z TI TO i1 i2 l1 l2:Addr} {b1 b2:Bool} {k:Nat} {xs ys:cq!} {x y a b:Value} {Q:aN!->eh!} (D:ZipApart z TI TO i1 i2 l1 l2) (hz:IsZip G! z TI TO X!) (bQ:lh! G! TI (q! i1) (q! i2)) (bX:lh! G! TO a b) (h1:Sit b1 G! i1 l1 k) (h2:Sit b2 G! i2 l2 k) (c1:hF! b1 l1 xs) (c2:hF! b2 l2 ys) (ex:E! xs k x) (ey:E! ys k y) (q:∀h',IsZip h' z TI TO (rawInt am!)->lh! h' TO x y->Sit b1 h' i1 l1 (k+1)->Sit b2 h' i2 l2 (k+1)->lh! h' am! x y->h'.objs.size=dD!-> (∀c o,c≠z->c≠TO->c≠i1->c≠i2->da! c->dn! c)->Q (b! fy!) {s with heap:=h'}):fY! P w A (oY! (q! z)) Q E s:=by
 have hT:o1! (q! z) io!:=b1! hz;unfold pyNext;refine _a (_c6 (_ae hT _cm (_at _cm hT F.entry_zip_next ?_ (F.args_zip_next_1 _))));show wpAny _ _ (field (q! z) 2 >>= _) _ _ _;refine _a (jv! hz ?_);refine _a (jv! hz ?_);refine _a (_a2 bQ rfl ?_);refine _a ?_;unfold Builtin.SmallTypes.ownedTupleIsFree;refine _a (jv! hz (_m ?_));simp only[_x];refine _a (_cy ?_);refine _a (jv! hz ?_);refine _a (_am hz (by simp) λg1 z1 s1=>?_);replace z1 := z1;refine _a ?_;refine _a (_a (_c7 ?_));refine _a (nx (h1.to (jt! s1 D.i1z e)) (c1.to (jt! s1 D.l1z e)) ex λg2 t2 s2=>_m ?_);have o2 := zG s2 D.TOi1 (zG s1 D.TOz bX);refine _a (_a2 o2 rfl ?_);refine _a (_cf o2 λg3 o3 s3=>?_);replace o3 := o3;refine _a (sp! ?_);refine _a (_a (_c7 ?_));refine _a (nx (h2.to (jt! s3 D.TOi2.symm (zG s2 D.i12.symm (zG s1 D.i2z e)))) (c2.to (jt! s3 D.l2TO (zG s2 D.l2i1 (zG s1 D.l2z e)))) ey λg4 t4 s4=>_m ?_);have o4 := zG s4 D.TOi2 o3;refine _a (_a2 o4 rfl ?_);refine _a (_cf o4 λg5 o5 s5=>?_);replace o5:lh! g5 TO x y:=o5;refine _a (sp! (_m ?_));refine _a (_a2 o5 rfl ?_);refine _a (_cE ?_);have sz:g5.objs.size=am!:=by rw[s5.1,s4.1,s3.1,s2.1,s1.1]
 have z5 := zG s5 D.TOz.symm (zG s4 D.i2z.symm (zG s3 D.TOz.symm (zG s2 D.i1z.symm z1)));have t5:Sit b1 g5 i1 l1 (k+1):=t2.to (jt! s5 D.TOi1.symm (zG s4 D.i12 (zG s3 D.TOi1.symm e)));have u5:Sit b2 g5 i2 l2 (k+1):=t4.to (jt! s5 D.TOi2.symm e);have zl := _r z5;refine _a ?_;have z6:IsZip (g5.push {cls:=du!,data:=.seq #[x,y]}) z TI TO .ellipsis:=_g _ z5;refine _a (_am z6 (by simp) λg7 z7 s7=>?_);replace z7 := z7;refine _am z7 (by simp) λg8 z8 s8=>?_;replace z8 := z8;have up:∀c o,c≠z->g5.get? c=b! o->g8.get? c=b! o:=λc o n e=>zG s8 n (zG s7 n (_g _ e));have p8 := zG s8 (_cq zl) (zG s7 (_cq zl) gN!);have e8:g8.objs.size=g5.objs.size+1:=by rw[s8.1,s7.1,_aG]
 rw[sz]at z8 p8 e8;refine _m (aA! _ (_m ?_));show Q (a3! g5.objs.size) _;rw[sz];exact q g8 z8 (up _ _ D.TOz o5) (t5.to λo e=>up _ o D.i1z e) (u5.to λo e=>up _ o D.i2z e) p8 e8 λc o n1 n2 n3 n4 e=>up c o n1 ((λc o n1 n2 n3 n4 e=>zG s5 n2 (zG s4 n4 (zG s3 n2 (zG s2 n3 (zG s1 n1 e))))) c o n1 n2 n3 n4 e)
theorem zq1{z TI TO i1 i2 l1 l2:Addr}{b1 b2:Bool}{k:Nat}{xs ys:cq!}{a b:Value}{Q:aN!->eh!}(hh:ne!)(D:ZipApart z TI TO i1 i2 l1 l2) (hz:IsZip G! z TI TO X!)(bQ:lh! G! TI (q! i1) (q! i2))(bX:lh! G! TO a b) (h1:Sit b1 G! i1 l1 k)(h2:Sit b2 G! i2 l2 k)(c1:hF! b1 l1 xs)(c2:hF! b2 l2 ys)(en:xs[k]? = a!\/ys[k]? = a!) (q:∀h',(∀c o,c≠z->c≠TO->c≠i1->c≠i2->da! c->dn! c)->Q a! {s with heap:=h'}):fY! P w A (oY! (q! z)) Q E s:=by
 have hT:o1! (q! z) io!:=b1! hz;have fin:∀h' e,(∀c o,c≠z->c≠TO->c≠i1->c≠i2->da! c->dn! c)->(∃o,dn! e/\fV!=r9!)-> fY! P w A (isInstance (q! e) r9! >>= λb=>aG! b (dH! a!) (throw (q! e))) Q E ({s with heap:=h'}):=λh' e hk he=>by
  obtain⟨o,ho,hc⟩:=he;exact _a (wpAny_isInstance (cj! ho hc) isSubtype_stop (_m (q _ hk)))
 refine _a (_c6 (_ae hT _cm (_at _cm hT F.entry_zip_next ?_ (F.args_zip_next_1 _))));show wpAny _ _ (field (q! z) 2 >>= _) _ _ _;refine _a (jv! hz ?_);refine _a (jv! hz (_a (_a2 bQ rfl ?_)));refine _a ?_;refine _a (jv! hz (_m ?_));refine _a (_cy ?_);refine _a (jv! hz (_a (_am hz (by simp) λg1 z1 s1=>?_)));refine _a ?_;refine _a (_a (_c7 ?_));cases ex:xs[k]? with
 | none=>
  refine _a (zg9 hh (h1.to (jt! s1 D.i1z e)) (c1.to (jt! s1 D.l1z e)) ex λg2 e s2 he=>?_);obtain⟨oe,dM,fB⟩:=he;have z2 := s2 _ _ D.i1z.symm z1;exact _am z2 (by simp) λg3 _ s3=>fin g3 e (λc o n1 _ n3 _ t=>zG s3 n1 (s2 _ _ n3 (zG s1 n1 t))) ⟨oe,zG s3 (λt=>by subst t;rw[z2]at dM;cases dM;simp at fB) dM,fB⟩ | some x=>
  refine _a (nx (h1.to (jt! s1 D.i1z e)) (c1.to (jt! s1 D.l1z e)) ex λg2 t2 s2=>_m ?_);have o2 := zG s2 D.TOi1 (zG s1 D.TOz bX);refine _a (_a2 o2 rfl ?_);refine _a (_cf o2 λg3 o3 s3=>(_a (sp! ?_)));refine _a (_a (_c7 ?_));refine _a (zg9 hh (h2.to (jt! s3 D.TOi2.symm (zG s2 D.i12.symm (zG s1 D.i2z e)))) (c2.to (jt! s3 D.l2TO (zG s2 D.l2i1 (zG s1 D.l2z e)))) (by rcases en with t | t;rw[ex]at t;cases t;exact t) λg4 e s4 he=>?_);obtain⟨oe,dM,fB⟩:=he;have z4:IsZip g4 z TI TO .ellipsis:=s4 _ _ D.i2z.symm (zG s3 D.TOz.symm (zG s2 D.i1z.symm z1));exact _am z4 (by simp) λg5 _ s5=>fin g5 e (λc o n1 n2 n3 n4 t=>zG s5 n1 (s4 _ _ n4 (zG s3 n2 (zG s2 n3 (zG s1 n1 t))))) ⟨oe,zG s5 (λt=>by subst t;rw[z4]at dM;cases dM;simp at fB) dM,fB⟩
end
noncomputable def itO(b:Bool)(l:Addr):Obj:=match b with
 | true=>{cls:=aF! "list_iterator",data:=eq! #[ei!,bs! 0 0]} | false=>{cls:=aF! "tuple_iterator",data:=eq! #[ei!,bs! 0 0]}
theorem zaE(e:ex! a (itO b l)):Sit b h a l 0:=by cases b with
 | true=>exact eS! _ e rfl | false=>exact eS! _ e rfl
theorem z5j(b:Bool)(l:Addr):(itO b l).isFreed=t!:=by cases b<;>rfl
section
variable {P:Program}{w:World}{A:Around}{E:bP!}{s:Shared}
theorem z80(h:hF! b l xs) (q:Q fy! {s with heap:=mb! b l}):fY! P w A (pyIter ei!) Q E s:=by cases b with
 | true=>exact wpAny_pyIter_list h q | false=>exact wpAny_pyIter_tuple h q
end
noncomputable abbrev G1(b1:Bool)(h:Heap)(l1:Addr):Heap:=h.push (itO b1 l1)
noncomputable abbrev G2(b1 b2:Bool)(h:Heap)(l1 l2:Addr):Heap:=cY! (G1 b1 h l1) (itO b2 l2)
noncomputable abbrev G3(b1 b2:Bool)(h:Heap)(l1 l2:Addr):Heap:=cY! (G2 b1 b2 h l1 l2) ({cls:=du!,data:=.seq #[q! iW!,q! (d1! (G1 b1 h l1))]})
noncomputable abbrev G4(b1 b2:Bool)(h:Heap)(l1 l2:Addr):Heap:=cY! (G3 b1 b2 h l1 l2) ({cls:=du!,data:=.seq #[X!,X!]})
noncomputable abbrev G5(b1 b2:Bool)(h:Heap)(l1 l2:Addr):Heap:=cY! (G4 b1 b2 h l1 l2) ({cls:=aF! io!,data:=eq! #[X!,.bool t!,.bool t!,q! (d1! (G2 b1 b2 h l1 l2)),q! (d1! (G3 b1 b2 h l1 l2))]})
theorem zi1(b1 b2:Bool) (l1 l2:Addr) (xs ys:cq!): Meets (Builtin.«zip.__new__» (dy! [aF! io!,q! l1,q! l2])) (λ_ R s=>hF! b1 l1 xs/\hF! b2 l2 ys/\R (lP! (q! (d1! (G4 b1 b2 G! l1 l2)))) {s with heap:=G5 b1 b2 G! l1 l2}):= qY! (by
  obtain⟨hp,g,d,tk,os⟩:=s;obtain⟨c1,c2,h⟩:=h;have bR:=sub_zip;have q1 := c1;have q2:Sco b2 (Shared.heap (eD! (hp.push (itO b1 l1)) g d tk)) l2 ys:=c2.to λo e=>_g _ e;wp_walk using z80 q1,z80 q2;exact aA! _ h)
section
variable {P:Program}{w:World}{A:Around}{E:bP!}{s:Shared}
theorem zjU(c1:hF! b1 l1 xs) (c2:hF! b2 l2 ys) (h:∀h',IsZip h' (am!+4) (am!+2) (am!+3) X!->lh! h' (am!+2) fy! (q! dD!)-> lh! h' (am!+3) X! X!->Sit b1 h' am! l1 0->Sit b2 h' dD! l2 0->(∀c o,da! c->dn! c)->Q (q! (am!+4)) {s with heap:=h'}): fY! P w A (call (aF! io!) [q! l1,q! l2]) Q E s:=by
 refine callType_new F.called_zip (by decide) (F.typeCall_zip_2 _ _) (F.newCall_zip_2 _ _) (λobj=>F.args_object_init_3 obj _ _) F.entry_zip_new (zi1 b1 b2 l1 l2 xs ys) ⟨c1,c2,?_⟩;have z1:d1! (G1 b1 G! l1)=dD!:=_aG ..;have z2:d1! (G2 b1 b2 G! l1 l2)=am!+2:=by rw[_aG,z1]
 have z3:d1! (G3 b1 b2 G! l1 l2)=am!+3:=by rw[_aG,z2]
 have z4:d1! (G4 b1 b2 G! l1 l2)=am!+4:=by rw[_aG,z3]
 have up:∀{h:Heap} {o:Obj} {c:Addr} {u:Obj},ex! c u->eK! (h.push o) c u:=λe=>_g _ e;have g5:eK! (G5 b1 b2 G! l1 l2) (d1! (G4 b1 b2 G! l1 l2)) _:=gN!;have g4:eK! (G5 b1 b2 G! l1 l2) (d1! (G3 b1 b2 G! l1 l2)) _:=up gN!;have g3:eK! (G5 b1 b2 G! l1 l2) (d1! (G2 b1 b2 G! l1 l2)) _:=up (up gN!);have g2:eK! (G5 b1 b2 G! l1 l2) (d1! (G1 b1 G! l1)) (itO b2 l2):=up (up (up (_v _ (z5j b2 l2))));rw[z2,z3,z4]at g5;rw[z1,z2]at g3;rw[z3]at g4;rw[z1]at g2;rw[z4];exact⟨b1! g5,h _ g5 g3 g4 (zaE (up (up (up (up (_v _ (z5j b1 l1))))))) (zaE g2) λc o e=>up (up (up (up (up e))))⟩
end
end Zz
namespace L2
open Zz
def Sq(b:Bool)(K:W.Frag)(H:Hp)(a:Addr)(xs:aU!):j!:=match b with
 | true=>SqL K H a xs | false=>en! K a xs
section
variable {X:Cx}{ae:c4!}{O:St}{H:Hp}{s:Shared}{h':Heap}
theorem Inv.sq(I:K!)(h:Sq b X.K H a xs):∃af:List Value,hr! xs/\hF! b a e2!:=by cases b with
 | true=>obtain⟨af,r,p,_⟩:=I.list h;exact aQ! af r p.isList | false=>obtain⟨af,r,p,_⟩:=k8! h;exact aQ! af r p
theorem Inv.sq_inj(I:K!)(h:Sq b X.K H a xs)(h':Sq b X.K H a ys):xs=ys:=by cases b with
 | true=>exact I.list_inj h h' | false=>exact I.tuple_inj h h'
theorem Inv.turnedL{ch:bk!}(I:K!)(k:bz! (b∉ch->da! b->dn! b))(f:∀b∈ch,zbQ X ae H b):lt! ({s with heap:=h',toks:=t'}):=by
 have eK:∀b u,cI! u->b∉ch:=λb u e z=>by rw[(f b z).1]at e;cases e
 refine I.step (ce! ⟨(f b hb).2.2.2.1,(f b hb).2.1,(f b hb).2.2.2.2.1,(f b hb).2.2.2.2.2⟩) (λb o _ _ hc e _=>k b o hc e) (λb o _ _ hc e _=>⟨o.slots,k b o hc e⟩) (λ_ _ _ _ n=>n) (λb o hc e=>⟨o,k b o hc e⟩) (λ_ _ e=>e) (λ_ _ _ e=>e) (λb ps e=>⟨#[],by rw[e];simp⟩) (λm hm=>?_) (λb u e=>?_) iZ!
 ·obtain⟨o,es,ep,ho,r⟩:=hm;exact⟨o,es,ep,k _ o (λz=>(f _ z).2.1 rfl) ho,r⟩
 ·refine (nI! b u e).stay (λc v hc q=>k c v ?_ q) (λ_ q=>q) λ_ _ q=>q;rcases hc with z | z;·rw[z];exact eK b u e
  ·exact eK c _ z
end
noncomputable def Itz(K:W.Frag)(b1 b2:Bool)(l1 l2:Addr):It:= ⟨λi H=>∃xs ys x y,Sq b1 K H l1 xs/\Sq b2 K H l2 ys/\aj! xs x/\aj! ys y, λi H v H'=>∃T x y,H T=a!/\v=q! T/\H'=hE! T (p! [x,y])/\(∀xs,Sq b1 K H l1 xs->aj! xs x)/\∀ys,Sq b2 K H l2 ys->aj! ys y, λi H=>∃xs ys,Sq b1 K H l1 xs/\Sq b2 K H l2 ys/\(v!<=i\/dr!<=i)⟩
theorem zjP{K:W.Frag} {z TI TO i1 i2 l1 l2:Addr}(D:ZipApart z TI TO i1 i2 l1 l2): zjd P w K (jp! bv tp) (Itz K b1 b2 l1 l2) [z,TI,TO,i1,i2] z (λi h=>IsZip h z TI TO X!/\lh! h TI (q! i1) (q! i2)/\(∃a b,lh! h TO a b)/\Sit b1 h i1 l1 i/\Sit b2 h i2 l2 i) where
 mem:=by simp
 obj:=λi h ⟨hz,bQ,⟨a,b,bX⟩,h1,h2⟩ c hc=>by
  rcases (by simpa using hc) with rfl | rfl | rfl | rfl | rfl;·exact bG! hz (λv e=>by simp at e)
  ·exact bG! bQ (λv e=>by simp at e)
  ·exact bG! bX (λv e=>by simp at e)
  ·exact h1.ob
  ·exact h2.ob
 keep:=λi h h' ⟨hz,bQ,⟨a,b,bX⟩,h1,h2⟩ k=>⟨k z (by simp) _ hz,k TI (by simp) _ bQ,⟨a,b,k TO (by simp) _ bX⟩,h1.to λo e=>k i1 (by simp) o e,h2.to λo e=>k i2 (by simp) o e⟩;item:=by
  intro X hP hw hK hc i ae s O H E I hf ⟨hz,bQ,⟨a,b,bX⟩,h1,h2⟩ ⟨xs,ys,x,y,qx,qy,ex,ey⟩;subst hP hw hK;obtain⟨ix,rx,cx⟩:=I.sq qx;obtain⟨iy,ry,cy⟩:=I.sq qy;obtain⟨u,hu,ru⟩:=rx.get ex;obtain⟨v,hv,rv⟩:=ry.get ey;refine zm6 D hz bQ bX h1 h2 cx cy (by simpa using hu) (by simpa using hv) λg a1 a2 a3 a4 a5 a6 hk=>aA! _ ?_;have I1 := I.turnedL (t':=s.toks) (λc o n e=>hk c o (λt=>n (by simp[t])) (λt=>n (by simp[t])) (λt=>n (by simp[t])) (λt=>n (by simp[t])) e) λc hc=>hf c ((λc hc=>by rcases (by simpa using hc) with rfl | rfl | rfl | rfl<;>simp:∀c∈[z,TO,i1,i2],c∈[z,TI,TO,i1,i2]) c hc);refine wpAny_letOwnedTupleGo_zip a1 λg2 z2 s2=>?_;obtain⟨f0,f1,f2,f3,f4,f5⟩:=hf z (by simp);have new := I.fpOk ah! (mc! _);have ne:∀{c:Addr}{o:Obj},da! c->c≠am!:=λe=>_D cX!;refine⟨fy!,hE! am! (p! [x,y]),(I1.turned (t':=s.toks) (λc o n e=>zG s2 n e) f0 f1 f3 f4 f5).track new ⟨?_,[u,v],ep! ru (ep! rv cn!),⟨_,(zG s2 (ne hz).symm a5),rfl,rfl,_,rfl⟩⟩,rfl,⟨_,x,y,new.1,rfl,rfl,λzs qz=>?_,λzs qz=>?_⟩,⟨z2,?_,bG! _ (zG s2 D.TOz a2),a3.to (jt! s2 D.i1z e),a4.to (jt! s2 D.i2z e)⟩,λc hc=>?_⟩;·show 2<=aW!;decide
  ·rw[I.sq_inj qz qx];exact ex
  ·rw[I.sq_inj qz qy];exact ey
  ·exact zG s2 D.TIz (hk TI _ D.TIz D.TITO D.TIi1 D.TIi2 bQ)
  ·rw[zJ (by
    rcases (by simpa using hc) with rfl | rfl | rfl | rfl | rfl;·exact ne hz
    ·exact ne bQ
    ·exact ne bX
    ·exact _D h1.lt
    ·exact _D h2.lt)];exact (hf c hc).1
 done:=by
  intro X hP hw hK hc i ae s O H E I hf ⟨hz,bQ,⟨a,b,bX⟩,h1,h2⟩ ⟨xs,ys,qx,qy,hl⟩;subst hP hw hK;obtain⟨ix,rx,cx⟩:=I.sq qx;obtain⟨iy,ry,cy⟩:=I.sq qy;have lx:=rx.length;have ly:=ry.length;refine zq1 g2! D hz bQ bX h1 h2 cx cy ?_ λg hk=>f5! (I.turnedL (ch:=[z,TO,i1,i2]) (λc o n e=>hk c o (λt=>n (by simp[t])) (λt=>n (by simp[t])) (λt=>n (by simp[t])) (λt=>n (by simp[t])) e) λc hc=>hf c (by rcases (by simpa using hc) with rfl | rfl | rfl | rfl<;>simp))
  ·rcases hl with hl | hl;·exact w! (by simp;lia)
   ·exact R! (by simp;lia)
 self:=λ_ _ _ _ _ st h=>wpAny_pyIter_zip st.1 h
theorem zqi{bv:aC!}{kt:Nat}{tp:Pos} {p pos:Pos}(hg:ih! io!)(hm:dx! io!)(ha:PA X [a,b] ta)(hs:y! (aq! [a,b]=dN! a::aq! [b]))(au:dU! [b] (·.1)): PI X (jp! bv tp) (c9! io! p [a,b]) (λO H R=>ta O H λvs H1=>∃l1 l2 b1 b2,vs=[q! l1,q! l2]/\(∃xs,Sq b1 X.K H1 l1 xs)/\(∃ys,Sq b2 X.K H1 l2 ys)/\R (Itz X.K b1 b2 l1 l2) H1):=by
 refine λae s O H R I h=>_aq (z1t I hg hm (by rfl) (_aa (thn (ha pos ae s O H _ I h) λus s1 ⟨vs,H1,I1,r1,q1⟩=>?_) hs au) (by decide) (by decide));obtain⟨l1,l2,b1,b2,rfl,⟨xs,qx⟩,⟨ys,qy⟩,q⟩:=q1;cases r1 with | cons r1 r2=> cases r2 with | cons r2 r3=>
   cases r3;cases r1;cases r2;obtain⟨ix,rx,cx⟩:=I1.sq qx;obtain⟨iy,ry,cy⟩:=I1.sq qy;have nt:l1<iv!:=by cases b1 with
    | true=>obtain⟨o,e,_⟩:=cx;exact cX! | false=>obtain⟨o,e,_⟩:=cx;exact cX!
   refine zjU cx cy λg hz bQ bX h1 h2 hk=>(wpAny_pyIter_zip hz ?_);refine⟨_,_,_,_,H1,rfl,nO! hk,zjP (by
    have e1:∀k:Nat,l1≠iv!+k:=λk=>_D (_i nt (_di _ _));have e2:∀k:Nat,l2≠iv!+k:=λk=>_D (_i (by cases b2 with
    | true=>obtain⟨o,e,_⟩:=cy;exact cX! | false=>obtain⟨o,e,_⟩:=cy;exact cX!) (_di _ _));have nk:∀(m j k:Nat),j≠k->m+j≠m+k:=λm j k h z=>h (Nat.add_left_cancel z);exact⟨nk _ 2 4 (by decide),nk _ 3 4 (by decide),nk _ 0 4 (by decide),nk _ 1 4 (by decide),nk _ 2 3 (by decide),nk _ 2 0 (by decide),nk _ 2 1 (by decide),nk _ 3 0 (by decide),nk _ 3 1 (by decide),nk _ 0 1 (by decide),e1 4,e1 3,e1 0,e1 1,e2 4,e2 3,e2 0,e2 1⟩),⟨hz,bQ,bG! _ bX,h1,h2⟩,λc hc=>?_,q⟩;have cC:iv!<=c:=by rcases (by simpa using hc) with rfl | rfl | rfl | rfl | rfl<;>first | exact ah! | exact _di _ _
   exact rC! cC cC
end L2
namespace Zz
section
variable {P:Program}{w:World}{A:Around}{E:bP!}{s:Shared}
theorem z9W(hh:ne!)(h:hF! b l af) (k:∀s2:Shared,s2={s with heap:=mb! b l}->∀St:Nat->Heap->Prop,Walks P w A am! [am!,l] [am!] af.size (λi v=>aj! af v) St->St 0 s2.heap-> (∀c∈[am!,l],c<s2.heap.objs.size)->(∀h':Heap,(∀c o,c∉[am!]->s2.heap.get? c=b! o->dn! c)->∀c o,da! c->dn! c)->Q fy! s2):fY! P w A (pyIter ei!) Q E s:=by
 have lt:l<am!:=by cases b with
  | true=>obtain⟨o,e,_⟩:=h;exact cX! | false=>obtain⟨o,e,_⟩:=h;exact cX!
 have ne := _D lt;have bd:∀c∈[am!,l],c<d1! (mb! b l):=λc hc=>by
  rw[_aG];rcases (by simpa using hc) with rfl | rfl;·exact _b7 _
  ·exact _aU lt
 have bx:∀h':Heap,(∀c o,c∉[am!]->eK! (mb! b l) c o->dn! c)->∀c o,da! c->dn! c:=λh' hk c o e=> hk c o (λz=>kD! ((show c=am! from by simpa using z) ▸ cX!) _) (_g _ e);refine z80 h ?_;have g:eK! (mb! b l) am! (itO b l):=_v _ (z5j b l);cases b with
 | true=>exact k _ rfl _ (Walks.list hh _ l ne af) ⟨zaE g,Sco.to h λo e=>_g _ e⟩ bd bx | false=>exact k _ rfl _ (Walks.tuple hh _ l ne af) ⟨zaE g,Sco.to h λo e=>_g _ e⟩ bd bx
end
end Zz
namespace L2
open Zz
noncomputable def maxL:g!->Int
 | []=>0 | x::xs=>kC! max
noncomputable def minL:g!->Int
 | []=>0 | x::xs=>kC! min
theorem jd:∀(xs:List Int)(x:Int),x<=kC! max/\(∀y∈xs,y<=kC! max)/\(kC! max=x\/kC! max∈xs)
 | [],x=>⟨_cV _,by simp,cT!⟩ | y::ys,x=>by
  obtain⟨h1,h2,h3⟩:=jd ys (max x y);refine⟨by simp only[_a6];lia,λz hz=>?_,?_⟩
  ·simp only[_a6];rcases d2! hz with rfl | hz;·lia
   ·exact h2 z hz
  ·simp only[_a6];rcases h3 with h3 | h3
   ·rw[h3];rcases Int.le_total x y with h | h;·exact R! (by rw[Int.max_eq_right h];simp)
    ·exact w! (Int.max_eq_left h)
   ·exact R! (_H _ h3)
theorem je:∀(xs:List Int)(x:Int),kC! min<=x/\(∀y∈xs,kC! min<=y)/\(kC! min=x\/kC! min∈xs)
 | [],x=>⟨_cV _,by simp,cT!⟩ | y::ys,x=>by
  obtain⟨h1,h2,h3⟩:=je ys (min x y);refine⟨by simp only[_a6];lia,λz hz=>?_,?_⟩
  ·simp only[_a6];rcases d2! hz with rfl | hz;·lia
   ·exact h2 z hz
  ·simp only[_a6];rcases h3 with h3 | h3
   ·rw[h3];rcases Int.le_total x y with h | h;·exact w! (Int.min_eq_left h)
    ·exact R! (by rw[Int.min_eq_right h];simp)
   ·exact R! (_H _ h3)
theorem maxL_ge: ∀y∈xs,y<=jE! xs:=by cases xs with
 | nil=>decide | cons x xs=>intro y hy;rcases d2! hy with rfl | hy;exact (jd xs y).1;exact (jd xs x).2.1 y hy
theorem maxL_mem(h:a4! xs):jE! xs∈xs:=by cases xs with
 | nil=>exact f6! h | cons x xs=>rcases (jd xs x).2.2 with e | e;exact (show kC! max∈x::xs by rw[e];simp);exact _H _ e
theorem minL_le: ∀y∈xs,jF! xs<=y:=by cases xs with
 | nil=>decide | cons x xs=>intro y hy;rcases d2! hy with rfl | hy;exact (je xs y).1;exact (je xs x).2.1 y hy
theorem minL_mem(h:a4! xs):jF! xs∈xs:=by cases xs with
 | nil=>exact f6! h | cons x xs=>rcases (je xs x).2.2 with e | e;exact (show kC! min∈x::xs by rw[e];simp);exact _H _ e
section
variable {X:Cx}
theorem z74{ns:g!} (r:hr! hD!) (e:aj! e2! v):∃t,v=bJ! (iG! i)/\i<e7!:=by
 have e':aj! af v:=by simpa using e
 have hl:=r.length;have hi:i<e7!:=by
  have:=cE! e';simp at hl;lia
 obtain⟨u,hu,ru⟩:=r.get (i:=i) (x:=V.int ns[i]) (by simp[hi]);rw[e']at hu;cases hu;obtain⟨t,rfl⟩:=ru;exact⟨t,by simp[hi],hi⟩
theorem getD_in{ns:g!} (h:i<e7!):iG! i∈ns:=by
 rw[List.getD,_b h];exact _K _
theorem zhV(hc:bY!):lJ! X nq! (∃b p ns,xs=[b9!]/\Sq b X.K H p hD!/\a4! ns/\Q (d! nl!) H):=by
 intro ae s O H xs us Q I r h;obtain⟨b,p,ns,rfl,hq,dy,q⟩:=h;obtain⟨u,rfl,ru⟩:=kJ!;cases ru;obtain⟨af,rv,co⟩:=I.sq hq;have hl:jC!=e7!:=by have:=rv.length;simp at this;lia
 refine call_max_walk (sf! g2! co ?_);subst e2;refine⟨_,_,_,_,_,_,_,rfl,W,st,bd,by simpa[hl] using (_bG.mpr dy),CmpOf.ints_gt (λi=>iG! i) (λi v e=>let ⟨t,e1,_⟩:=z74 rv e;as! t e1),λv h' tk e hk=>?_⟩;obtain⟨t,e1,lt⟩:=z74 rv e;obtain⟨h1,h2⟩:=argBest_gt (λi=>iG! i) (iw!-1);rw[e1,(show iG! (argBest (λi j=>bi! (iG! i > iG! j)) (iw!-1))=nl! from by
  refine Int.le_antisymm (n0! _ (getD_in lt)) ?_
  ·obtain⟨j,hj,ej⟩:=gu! (kn! dy);have:=h2 j (by simp[hl];lia);simp only[List.getD,_b hj,ej]at this;exact this)];exact⟨d! nl!,H,lZ! (bx h' hk),ch! t,q⟩
theorem zfV(hc:bY!):lJ! X nr! (∃b p ns,xs=[b9!]/\Sq b X.K H p hD!/\a4! ns/\Q (d! (jF! ns)) H):=by
 intro ae s O H xs us Q I r h;obtain⟨b,p,ns,rfl,hq,dy,q⟩:=h;obtain⟨u,rfl,ru⟩:=kJ!;cases ru;obtain⟨af,rv,co⟩:=I.sq hq;have hl:jC!=e7!:=by have:=rv.length;simp at this;lia
 refine call_min_walk (sf! g2! co ?_);subst e2;refine⟨_,_,_,_,_,_,_,rfl,W,st,bd,by simpa[hl] using (_bG.mpr dy),CmpOf.ints_lt (λi=>iG! i) (λi v e=>let ⟨t,e1,_⟩:=z74 rv e;as! t e1),λv h' tk e hk=>?_⟩;obtain⟨t,e1,lt⟩:=z74 rv e;obtain⟨h1,h2⟩:=argBest_lt (λi=>iG! i) (iw!-1);rw[e1,(show iG! (argBest (λi j=>bi! (iG! i<iG! j)) (iw!-1))=jF! ns from by
  refine Int.le_antisymm ?_ (minL_le _ (getD_in lt))
  ·obtain⟨j,hj,ej⟩:=gu! (rr! dy);have:=h2 j (by simp[hl];lia);simp only[List.getD,_b hj,ej]at this;exact this)];exact⟨d! (jF! ns),H,lZ! (bx h' hk),ch! t,q⟩
theorem all_range{bs:dZ! b5!}:(iX! qg!).all (λi=>st! i)=bs.all id:=by
 rw[Bool.eq_iff_iff];simp only[_S,_aJ,id];constructor
 ·intro h x hx;obtain⟨j,hj,ej⟩:=oN!;simpa[hj,ej] using (h j hj)
 ·intro h i hi;simp only[List.getD,_b hi,_aB];exact h _ (_K _)
theorem zgI(hc:bY!):lJ! X iT! (∃(b:Bool) (p:Addr) (bs:List Bool),xs=[b9!]/\Sq b X.K H p su!/\Q (.bl (bs.all id)) H):=by
 intro ae s O H xs us Q I r h;obtain⟨b,p,bs,rfl,hq,q⟩:=h;obtain⟨u,rfl,ru⟩:=kJ!;cases ru;obtain⟨af,rv,co⟩:=I.sq hq;have hl:jC!=qg!:=by have:=rv.length;simp at this;lia
 refine call_all_walk (sf! g2! co ?_);subst e2;refine⟨_,_,_,_,_,_,λi=>st! i,rfl,W,st,λi v s3 Q3 E3 e q3=>?_,λh' tk hk=>?_⟩
 ·have e':aj! af v:=by simpa using e
  have hi:i<qg!:=by have:=cE! e';lia
  obtain⟨u,hu,ru⟩:=rv.get (i:=i) (x:=V.bl bs[i]) (by simp[hi]);rw[e']at hu;cases hu;cases ru;have q3:Q3 (st! i) s3:=q3;rw[(show st! i=bs[i] from by simp[List.getD,hi])]at q3;exact _aT q3
 ·rw[(show iw!=qg! from by exact hl ..),all_range];exact bj! (.bl (bs.all id)) H (lZ! (bx h' hk)) q
end
end L2
namespace L2
theorem zcU: lJ! X gq! (∃x t T b,xs=[x,.ty T]/\zc3 X.K H x t/\mL! X.K t j4!=b! b/\Q ho! H):=by
 intro ae s O H xs us Q I r h;obtain⟨x,t,T,b,rfl,ht,hk,q⟩:=h;obtain⟨u,v,rfl,ru,rv⟩:=vals2 r;cases rv;exact zgv I ru ht hk λtk=>bj! ho! H ia! q
end L2
namespace Dd
open L2
noncomputable def tyD:D->bh! String
 | .non=>b! "NoneType" | .bl _=>b! fs! | .int _=>b! ee! | .str _=>b! fU! | .tup _=>b! dd! | .lst _=>b! d0! | .loc _=>b! d0! | .dct=>b! np! | _=>none
noncomputable def isT(T t:String):Bool:=t==T||(T==ee!&&t==fs!)
noncomputable def gIs(T:String):D->bn!:=λd s=>match tyD d with | some t=>aM! (isT T t) | none=>.no
theorem zd5{K:W.Frag} (h:t∈["NoneType",fs!,ee!,fU!,dd!,d0!,np!])(T:String)(hT:T∈[ee!,fs!,fU!,dd!,d0!]):mL! K (aF! t) j4!=b! (isT T t):=by rcases (by simpa using h) with rfl | rfl | rfl | rfl | rfl | rfl | rfl<;>rcases (by simpa using hT) with rfl | rfl | rfl | rfl | rfl<;>kernel_rfl
theorem zl7(r:cJ!)(dn:fN!)(e:tyD d=b! t):zc3 m5! H v (aF! t)/\t∈["NoneType",fs!,ee!,fU!,dd!,d0!,np!]:=by cases d with
 | non=>subst dn;cases e;exact⟨at!,by decide⟩ | bl b=>cases kO dn;cases e;exact⟨ho!,by decide⟩ | int b=>cases yq dn;cases e;exact⟨eE!,by decide⟩ | str b=>cases z06 dn;cases e;exact⟨ax! b,by decide⟩ | tup b=>
  cases e;obtain⟨a,vs,rfl,h1,_⟩:=dn;exact⟨p! h1,by decide⟩ | lst b=>
  cases e;obtain⟨a,o,vs,rfl,h1,_⟩:=dn;exact⟨.frz h1,by decide⟩ | loc l=>
  cases e;obtain⟨a,rfl,h1,vs,h2⟩:=dn;exact⟨ab! h2,by decide⟩ | dct=>
  cases e;obtain⟨a,rfl,h1⟩:=dn;exact⟨.dK h1,by decide⟩ | _=>cases e
section
variable {X:Cx}{E:XK}{e a b c tg:Expr}{es:aC!}{pos:Pos}{CX:CXT}
noncomputable def eIs(T:String)(f:FE):FE:=eu! (dV! (gIs T d s1))
theorem zaG{p p2:Pos} (hT:T∈[ee!,fs!,fU!,dd!,d0!])(hv:kz! tn j4!)(hg:ih! gq!)(hm:dx! gq!)(cO:ih! tn)(cr:dx! tn)(he:e0! f) (hn:jK! (lB! tn))(hd:b8! (tn==cz!)) (hs:y! (aq! [e,fi! tn]=dF!::aq! [fi! tn]))(au:dU! [fi! tn] (·.1)):W! (c9! gq! p [e,fi! tn]) (eIs T f):= yk (z2F zcU hg hm (by decide +kernel) (wD he (wD (z9k cO cr hv (show wA (.ty T) j4! from rfl) hn hd) z0v) hs) (by decide) (by decide) hs au) λO H Q ⟨Y,ρ,s,r,en,h⟩=>by
  refine yI (k:=km! (gIs T d s1)) r en h _ λv H1 Y1 s1 d r1 av dn stp h1=>?_;unfold gIs at h1;split at h1
  ·rename_i t et;obtain⟨q1,q2⟩:=zl7 r1 dn et;exact⟨v,aF! t,T,isT T t,rfl,q1,zd5 q2 T hT,nX! h1 r1 wz⟩
  ·exact h1.elim
noncomputable def zkv:C!->bn!
 | [.int i],s=>u! (ai! (i<0) (-i) i) | _,_=>.no
theorem zth:∃r,je! X "abs" r/\z1I X E r zkv:=jN! zj3 (by
 unfold zkv at h;split at h
 ·rename_i i;obtain⟨v,rfl,dn⟩:=kU!;cases yq dn;exact aA! i (eB! yB)
 ·exact h.elim)
noncomputable def intsOf:C!->bh! g!
 | []=>b! [] | .int i::r=>(qh! r).map (i::·) | _=>none
noncomputable def bools:C!->bh! (dZ! b5!)
 | []=>b! [] | .bl i::r=>(n1! r).map (i::·) | _=>none
theorem z05:∀{xs:List D}{ns:List Int},qh! xs=b! ns->xs=h3!
 | [],ns,h=>by cases h;rfl | .int i::r,ns,h=>by
  obtain⟨ms,h1,rfl⟩:=qi! h;rw[z05 h1];rfl
theorem vZ(ns:g!):qh! h3!=b! ns:=by induction ns with
 | nil=>rfl | cons n ns ih=>show (qh! _).map (n::·)=_;rw[ih];rfl
theorem z54:∀{xs:List D}{ns:List Bool},n1! xs=b! ns->xs=o2! D.bl
 | [],ns,h=>by cases h;rfl | .bl i::r,ns,h=>by
  obtain⟨ms,h1,rfl⟩:=qi! h;rw[z54 h1];rfl
theorem zar(ns:dZ! b5!):n1! (o2! D.bl)=b! ns:=by induction ns with
 | nil=>rfl | cons n ns ih=>show (n1! _).map (n::·)=_;rw[ih];rfl
theorem z07: ∀{ns:List Int}{vs:List V},pD! h3!->vs=hD!
 | [],vs,h=>by exact h | n::ns,vs,h=>by
  obtain⟨v,r,rfl,h1,h2⟩:=h;cases yq h1;rw[z07 h2];rfl
theorem z4W: ∀{ns:List Bool}{vs:List V},pD! (o2! D.bl)->vs=o2! V.bl
 | [],vs,h=>by exact h | n::ns,vs,h=>by
  obtain⟨v,r,rfl,h1,h2⟩:=h;cases kO h1;rw[z4W h2];rfl
noncomputable def vH:C!->bn!
 | [d],s=>match z! (zV s d) intsOf with | some (n::ns)=>u! (jE! (n::ns)) | _=>.no
 | _,_=>.no
noncomputable def z7g:C!->bn!
 | [d],s=>match z! (zV s d) intsOf with | some (n::ns)=>u! (jF! (n::ns)) | _=>.no
 | _,_=>.no
noncomputable def zft:C!->bn!
 | [d],s=>match z! (zV s d) bools with | some ns=>aM! (ns.all id) | none=>.no
 | _,_=>.no
theorem zdA{K:W.Frag} {a:Addr} (h:SqL K H a vs\/en! K a vs):∃b,Sq b K H a vs:=h.elim (λh=>as! c! h) λh=>as! t! h
theorem z3K(hc:bY!):∃r,je! X nq! r/\z1I X E r vH:=jN! (zhV hc) (by
 unfold vH at h;split at h
 ·split at h
  ·rename_i n ns e;obtain⟨xs,e1,e2⟩:=_bd.mp e;have:=z05 e2;subst this;obtain⟨v,rfl,dn⟩:=kU!;obtain⟨a,ws,rfl,q1,q2⟩:=jc r e1 dn;cases z07 q2;obtain⟨b,q⟩:=zdA q1;exact⟨b,a,n::ns,rfl,q,by simp,eB! yB⟩
  ·exact h.elim
 ·exact h.elim)
theorem zkF(hc:bY!):∃r,je! X nr! r/\z1I X E r z7g:=jN! (zfV hc) (by
 unfold z7g at h;split at h
 ·split at h
  ·rename_i n ns e;obtain⟨xs,e1,e2⟩:=_bd.mp e;have:=z05 e2;subst this;obtain⟨v,rfl,dn⟩:=kU!;obtain⟨a,ws,rfl,q1,q2⟩:=jc r e1 dn;cases z07 q2;obtain⟨b,q⟩:=zdA q1;exact⟨b,a,n::ns,rfl,q,by simp,eB! yB⟩
  ·exact h.elim
 ·exact h.elim)
theorem zjn(hc:bY!):∃r,je! X iT! r/\z1I X E r zft:=jN! (zgI hc) (by
 unfold zft at h;split at h
 ·split at h
  ·rename_i ns e;obtain⟨xs,e1,e2⟩:=_bd.mp e;have:=z54 e2;subst this;obtain⟨v,rfl,dn⟩:=kU!;obtain⟨a,ws,rfl,q1,q2⟩:=jc r e1 dn;cases z4W q2;obtain⟨b,q⟩:=zdA q1;exact⟨b,a,ns,rfl,q,eB! wz⟩
  ·exact h.elim
 ·exact h.elim)
noncomputable def z3S:C!->C!->C!
 | x::xs,y::ys=>p! [x,y]::z3S xs ys | _,_=>[]
theorem z6E:∀(xs ys:List D),r! (z3S xs ys)=min v! dr!
 | [],ys=>by rfl | x::xs,[]=>by rfl | x::xs,y::ys=>by simp only[z3S,_j,z6E xs ys];omega
theorem zfA:∀{xs ys:List D}{i:Nat}{d:D},aj! (z3S xs ys) d->∃x y,aj! xs x/\aj! ys y/\d=p! [x,y]
 | [],ys,i,d,h=>by cases h | x::xs,[],i,d,h=>by cases h | x::xs,y::ys,0,d,h=>by simp[z3S]at h;exact⟨x,y,by rfl,by rfl,h.symm⟩ | x::xs,y::ys,i+1,d,h=>by
  simp only[z3S,_d]at h;obtain⟨a,b,h1,h2,h3⟩:=zfA h;exact⟨a,b,by exact h1,by exact h2,h3⟩
noncomputable def z8c(s:Sto):D->bh! (C!×f3! Nat C!)
 | .tup xs=>b! (xs,[]) | .lst xs=>b! (xs,[]) | .loc l=>(s[l]?).map λxs=>(xs,[(l,xs)]) | _=>none
theorem zcE(r:cJ!)(h:z8c s d=b! (xs,g))(dn:fN!):okG g [] s/\∃(b:Bool)(a:Addr),v=ad!/\ ∀H2 Y2 s2,vj mg H Y H2 Y2 s2->okG g [] s2->∃ws,Sq b m5! H2 a ws/\f9! H2 Y2 xs ws:=by cases d with
 | tup ys=>
  cases h;obtain⟨a,vs,rfl,q1,q2⟩:=kW (K:=mg.K) dn;refine bj! (by intro p hp;cases hp) t! a (λH2 Y2 s2 stp _=>?_);obtain⟨a',ws,e,q3,q4⟩:=kW (rq! stp);cases e;exact aQ! ws q3 q4 | lst ys=>
  cases h;obtain⟨a,vs,rfl,q1,q2⟩:=yn r rfl dn;refine bj! (by intro p hp;cases hp) c! a (λH2 Y2 s2 stp _=>?_);obtain⟨a',ws,e,q3,q4⟩:=yn ds! rfl (rq! stp);cases e;exact⟨ws,w! q3,q4⟩ | loc l=>
  simp only[z8c,_ah]at h;obtain⟨ys,ey,e2⟩:=h;cases e2;obtain⟨a,vs,rfl,q1,q2⟩:=yn (d:=ea!) r ey dn;refine bj! (bo! (by
   have:p=(l,xs):=by simpa using hp
   subst this;exact ey)) c! a (λH2 Y2 s2 stp hg=>?_);obtain⟨a',ws,e,q3,q4⟩:=yn (d:=ea!) stp.rep (hg (l,xs) (by simp)) (rq! stp);cases e;exact⟨ws,w! q3,q4⟩ | _=>cases h
noncomputable def z4P(f:FA):FI:=bW! aK! (ix! (match ds with
 | [x,y]=>match z8c s1 x,z8c s1 y with
  | some p,some q=>T! (z3S p.1 q.1,p.2++q.2) | _,_=>.no
 | _=>.no))
theorem z7c{p tp:Pos}{bv:aC!}{kt:Nat} (hg:ih! io!)(hm:dx! io!)(ha:RA X E [a,b] f)(hs:y! (aq! [a,b]=dN! a::aq! [b]))(au:dU! [b] (·.1)): RI X E (jp! bv tp) (c9! io! p [a,b]) (z4P f):= z7P (zqi hg hm ha hs au) λO H Q ⟨Y,ρ,s,r,en,h⟩=>by
  refine⟨Y,ρ,s,r,en,c2! h (λvs H1 ⟨Y1,s1,ds,stp,dn,h1⟩=>?_)⟩;split at h1
  ·split at h1
   ·rename_i p q ex ey;obtain⟨v,v',rfl,d1,d2⟩:=za4 dn;obtain⟨io,b1,a1,rfl,k1⟩:=zcE ds! ex d1;obtain⟨nu,b2,a2,rfl,k2⟩:=zcE ds! ey d2;obtain⟨w1,q1,_⟩:=k1 H1 Y1 s1 (.refl ds!) io;obtain⟨w2,q2,_⟩:=k2 H1 Y1 s1 (.refl ds!) nu;refine⟨a1,a2,b1,b2,rfl,as! w1 q1,as! w2 q2,os! (λH2 Y2 s2 ag og i=>?_)⟩;have h3 := bo! (og p (_a9 _ hp));have h4 := bo! (og p (_N _ hp));refine⟨hY! ?_,λhl=>?_⟩
    ·obtain⟨x,y,e1,e2,rfl⟩:=zfA hd;obtain⟨w1,q1,n1⟩:=k1 H2 Y2 s2 ag h3;obtain⟨w2,q2,n2⟩:=k2 H2 Y2 s2 ag h4;obtain⟨u1,g1,m1⟩:=n1.get e1;obtain⟨u2,g2,m2⟩:=n2.get e2;refine⟨⟨w1,w2,u1,u2,q1,q2,g1,g2⟩,λz H' ⟨T,p,q,hT,ez,eH,hp,hq⟩=>?_⟩;subst ez eH;have e3:=hp w1 q1;have e4:=hq w2 q2;rw[g1]at e3;rw[g2]at e4;cases e3;cases e4;have cE:=vj.lay (o:=p! [u1,u2]) ag.rep hT (by intro _ z;cases z);exact⟨Y2,cE,gB! T [u1,u2] yw ((o3! m1 (yj.one m2)).mono cE)⟩
    ·obtain⟨w1,q1,n1⟩:=k1 H2 Y2 s2 ag h3;obtain⟨w2,q2,n2⟩:=k2 H2 Y2 s2 ag h4;refine⟨w1,w2,q1,q2,?_⟩;rw[n1.length,n2.length];simp only[z6E]at hl;omega
   ·exact h1.elim
  ·exact h1.elim
end
noncomputable def vd(mp:eC!)(ρ:Ev):Ev:=mp.map λo=>match o with | some j=>(ρ[j]?).getD a! | none=>none
theorem kH.inner(en:fr! H Y):kH mg H Y (vd mp ρ) hS!:=by
 refine⟨by simp[vd,L2.inner],λi d h=>?_⟩;simp only[vd,_z,_ah]at h;obtain⟨o,h1,h2⟩:=h;cases o with
 | none=>cases h2 | some j=>
  simp only at h2;obtain⟨v,h4,h5⟩:=en.at_ j d (by cases e:ρ[j]? with
   | none=>rw[e]at h2;cases h2 | some x=>rw[e]at h2;simp at h2;rw[h2]);exact⟨v,by simp[L2.inner,h1,h4],h5⟩
open Classical in
noncomputable def qK(g:f3! Nat C!)(all:C!)(body:D->fF! fg!):C!->C!->fF! C!
 | [],acc,s=>aa! (okG g all s) (k! acc) | x::xs,acc,s=>aa! (okG g all s) (z! (body x s) (λo s1=>match o with
   | some d=>aa! (jG!<cap) (qK g all dI! xs (acc++[d]) s1) | none=>qK g all dI! xs acc s1))
noncomputable def zc7(fi:FI)(mp:eC!)(fg:FG)(ft:FT)(fe:FE):FA:=bW! (fi ρ s) (λit s1=>qK it.2 it.1 (λd s=>z! (fg d (vd mp ρ) s) (fun ρ' s'=>z! (ft ρ' s') (λb s2=>aG! b (z! (fe ρ' s2) (λd s3=>.ok i! s3)) (b2! a!)))) it.1 [] s1)
def z7o(mg:Gm)(E:XK)(mp:eC!)(g:TG)(fg:FG):j!:=∀(O:L2.St) H Y ρ s x d (Q:L2.St->Hp->Prop),cJ!->kH mg H Y (vd mp ρ) hS!->j3! d x->dC! H Y (kH mg) (fg d (vd mp ρ) s) Q-> g x hS! H (λO2 H2=>(O2.length=r! hS!/\∀(i:Nat) v,aj! hS! bx!->aj! O2 bx!)/\Q O2 H2)
theorem z6j{i:Nat}(h:aj! mp a!)(O:L2.St):aj! hS! a!:=by simp[L2.inner,h]
theorem z8L{O:L2.St} (h:aj! O a!):r! (lK! i)=O.length/\∀(j:Nat) u,E! O j (b! u)->E! (lK! i) j (b! u):=by
 refine⟨by simp,λj u e=>?_⟩;rw[_ab (λz=>by subst z;rw[h]at e;cases e)];exact e
section
variable {X:Cx}{E:XK}{e a b c tg iter az:Expr}{es:aC!}{pos:Pos}{CX:CXT}{mp:eC!}
theorem zN(i:Nat)(h:aj! mp a!):z7o B! E mp (zew i) (yh i):=λO H Y ρ s x d Q r en dn ok=>⟨z8L (z6j h O),(g4! ok (en.set dn i))⟩
theorem z5n{Dn:Hp->bk!->β->β2->j!} (hg:z7o B! E mp g fg)(r:Rep B! H Y s)(en:kH B! H Y ρ O) (h:iL! B! H Y Dn (z! (zc7 fi mp fg ft fe ρ s) kR) Q2) (fin:∀H1 Y1 s1 xs vs,Rep B! H1 Y1 s1->kH B! H1 Y1 ρ O->yj B! H1 Y1 xs vs->iL! B! H1 Y1 Dn (kR xs s1) Q2->j8!->∀p,H1 p=a!->Q b9! (upd H1 p ci!)): zkf (tI B! E fi) mp g (tT B! E ft) (tE B! E fe) O H Q:=by
 unfold zc7 at h;have assoc:∀{α γ δ:Type}(x:R α)(f:α->Sto->R γ)(k:γ->Sto->R δ),z! (qj! f) k=qj! (λa s=>z! (f a s) k):=λx f k=>by cases x<;>rfl
 rw[assoc]at h;refine⟨Y,ρ,s,r,en,c2! h (λJ H1 ⟨Y1,s1,it,stp,ok,h1⟩=>?_)⟩;obtain⟨items,gd⟩:=it;refine aQ! (λi m ys H=>∃Y s acc,vj B! H1 Y1 H Y s/\yj B! H Y acc ys/\jG!<=cap/\m=jD!-i/\i<=jD!/\ iL! B! H Y Dn (z! (qK gd gU! (λd s=>z! (fg d (vd mp ρ) s) (fun ρ' s'=>z! (ft ρ' s') (λb s2=>aG! b (z! (fe ρ' s2) (λd s3=>.ok i! s3)) (b2! a!)))) (items.drop i) acc s) kR) Q2) ⟨jD!,Y1,s1,[],.refl ds!,yj.nil,gM!,by rfl,gM!,by exact h1⟩ ?_;rintro i m ys H2 ⟨Y2,s2,acc,ag,ax,bK,rfl,nr,h2⟩;have aY := (h4!).mono ag;by_cases bG:i<jD!
 ·right;rw[_bD bG,qK]at h2;split at h2
  ·rename_i hG;obtain⟨go,yl⟩:=((ok H2 Y2 s2 ag hG i).1 items[i] (_b bG));refine⟨go,λx H' y=>?_⟩;obtain⟨Y3,aq,cB⟩:=yl x H' y;have h3:=okR.rebase h2 aq;rw[assoc,assoc]at h3;refine hg O H' Y3 ρ s2 x items[i] _ aq.rep ((aY.mono aq).inner) cB ((okR.bind (Dn:=kH B!) h3).imp λO4 H4 ⟨Y4,s4,ρ4,bF,ii,h5⟩=>?_);rw[assoc]at h5;refine⟨Y4,ρ4,s4,bF.rep,ii,c2! h5 (λbb H5 ⟨Y5,s5,b',bP,eb,h6⟩=>?_)⟩;cases (eb);have fC := bL! (bL! (ag.trans aq) bF) bP;cases bb with
   | true=>
    rw[gC!]at h6 ⊢;rw[assoc]at h6;refine⟨Y5,ρ4,s5,bP.rep,ii.mono bP,c2! h6 (λy H6 ⟨Y6,s6,d6,cq,cT,h7⟩=>?_)⟩;split at h7;·refine⟨by rw[ax.length];exact kM bK,jD!-(i+1),by omega,Y6,s6,acc++[d6],(fC.trans cq),((((ax.mono aq).mono bF).mono bP).mono cq).append (yj.one cT),by simp;omega,rfl,bG,h7⟩
    ·exact h7.elim | false=> exact⟨jD!-(i+1),by omega,Y5,s5,acc,fC,((ax.mono aq).mono bF).mono bP,bK,rfl,bG,h6⟩
  ·exact h2.elim
 ·left;have e:i=jD!:=by omega
  subst e;rw[List.drop_length,qK]at h2;split at h2
  ·rename_i hG;exact⟨(ok H2 Y2 s2 ag hG _).2 ah!,by rw[ax.length];exact kM bK,fin H2 Y2 s2 acc ys i6! aY ax h2 bK⟩
  ·exact h2.elim
noncomputable def zv(fi:FI)(mp:eC!)(fg:FG)(ft:FT)(fe:FE):FE:=bW! (zc7 fi mp fg ft fe ρ s) (i5! (T! cD!))
noncomputable def z19(fi:FI)(mp:eC!)(fg:FG)(ft:FT)(fe:FE):FE:=bW! (zc7 fi mp fg ft fe ρ s) (i5! (aa! (c0! xs) (.ok sm! (s1++[xs]))))
noncomputable def zZ:FT:=λ_ s=>k! c!
theorem ye: zcd Yy [] (tT (gm Yy) E zZ):=λae s O H Q I ⟨Y,ρ,st,r,en,h⟩=>zjZ ae s O H Q I (eB! rfl)
theorem wS(h:RT Yy E c f):zcd Yy [c] (tT (gm Yy) E f):=zkg h
section
variable {scope:Scope}{aC:aC!}{fi:FI}{fg:FG}{ft:FT}{fe:FE}{g:TG}{aF py:Pos}
theorem zok(N':al!)(mp:eC!)(hc:bY!)(hi:RI X E tg hV! fi)(hg:lF! cm! tg g)(cu:z7o B! E mp g fg)(ht:lC! cm! aC (tT B! E ft))(he:pK! cm! az fe) (aV:jU!)(aR:∀y∈scope.names,jB! y.1=b! y.2) (aI:∀y∈scope.names,y.2=bK!->X.env.kindOf y.1=dk!\/X.env.kindOf y.1=b! bK!)(aW:kd! N' mp=c!) (hs:kT! (kL! x=kS!)):W! (fL! [gj! 0]) (zv fi mp fg ft fe):= yk (zgH (te:=tE B! E fe) N' mp hc hi hg ht (λex s H=>he ex s H) aV aR aI aW hs).freeze λO H Q ⟨Y,ρ,s,r,en,h⟩=> z5n cu r en h λH1 Y1 s1 xs vs r1 av dn h1 bK=>z04 r1 h1 dn
theorem zeB(N':al!)(mp:eC!)(hN:X.N.Nodup)(hc:bY!)(hi:RI X E tg hV! fi)(hg:lF! cm! tg g)(cu:z7o B! E mp g fg)(ht:lC! cm! aC (tT B! E ft))(he:pK! cm! az fe) (aV:jU!)(aR:∀y∈scope.names,jB! y.1=b! y.2) (aI:∀y∈scope.names,y.2=bK!->X.env.kindOf y.1=dk!\/X.env.kindOf y.1=b! bK!)(aW:kd! N' mp=c!)(hy:y! (gd! y))(cM:mf! (h0! y)) (hs:kT! (kL! x=kS!)) (cN:y! (md! (fL! [gj! 0]) (b! gm!) qb!=rf!)) (hf:h2! (g8! y\/fB! y)): RS X E (.Assign [gm!] (fL! [gj! 0]) aF) (yu i (zv fi mp fg ft fe)):= kL (zcj (te:=tE B! E fe) N' mp hN hy cM hc hi hg ht (λex s H=>he ex s H) aV aR aI aW hs cN hf) λD O H ⟨Y,ρ,s,r,en,h⟩=>by
  unfold yu zv at h;rw[(λx f k=>by cases x<;>rfl:∀{α γ δ:Type}(x:R α)(f:α->Sto->R γ)(k:γ->Sto->R δ),z! (qj! f) k=qj! (λa s=>z! (f a s) k))]at h;exact z5n cu r en h λH1 Y1 s1 xs vs r1 av dn h1 bK p hp=>(z04 (E:=E) r1 (λv H2 Y2 stp ax=>(h1 (.nx (lK! i)) H2 Y2 stp ((av.mono stp).set ax i))) dn p hp)
theorem zf5(N':al!)(mp:eC!)(hN:X.N.Nodup)(hc:bY!)(hi:RI X E tg hV! fi)(hg:lF! cm! tg g)(cu:z7o B! E mp g fg)(ht:lC! cm! aC (tT B! E ft))(he:pK! cm! az fe) (aV:jU!)(aR:∀y∈scope.names,jB! y.1=b! y.2) (aI:∀y∈scope.names,y.2=bK!->X.env.kindOf y.1=dk!\/X.env.kindOf y.1=b! bK!)(aW:kd! N' mp=c!)(hy:y! (gd! y))(cM:mf! (h0! y)) (hs:kT! (kL! x=kS!)) (cN:y! (md! (fL! [gj! 0]) (b! gm!) qb!=rf!)) (hf:h2! (g8! y\/fB! y)): RS X E (.Assign [gm!] (fL! [gj! 0]) aF) (yu i (z19 fi mp fg ft fe)):= kL (zf2 (te:=tE B! E fe) N' mp hN hy cM hc hi hg ht (λex s H=>he ex s H) aV aR aI aW hs cN hf) λD O H ⟨Y,ρ,s,r,en,h⟩=>by
  unfold yu z19 at h;rw[(λx f k=>by cases x<;>rfl:∀{α γ δ:Type}(x:R α)(f:α->Sto->R γ)(k:γ->Sto->R δ),z! (qj! f) k=qj! (λa s=>z! (f a s) k))]at h;refine z5n cu r en h λH1 Y1 s1 xs vs r1 av dn h1 bK p hp=>?_;split at h1
  ·rename_i hf;have stp:=vj.layL r1 hp dn hf;refine h1 (.nx (O.set i (a3! p))) _ _ stp ((av.mono stp).set ?_ i);exact⟨p,rfl,by rw[<- r1.len];simp,vs,yw⟩
  ·exact h1.elim
end
end
section
variable {X:Cx}{E:XK}{e a b c tg iter az:Expr}{es:aC!}{pos:Pos}{CX:CXT}{mp:eC!}
noncomputable def zlA(K:W.Frag)(i j:Nat):TG:=ztX K 2 (zmQ (zew i) (zmQ (zew j) ztK))
theorem xB(i j:Nat){x y:Str}{px py:Pos}{kt:Nat}(hc:bY!)(hN:X.N.Nodup)(hi:y! (gd! x))(hj:y! (E! X.N j y))(hx:mf! (h0! x))(hy:mf! (h0! y)) (hf:h2! (g8! x\/fB! x))(ik:h2! (g8! y\/fB! y)): PG X (jp! [ff! px,gm!] pos) (zlA X.K i j):=zlm hc (z5o (zS hN hi hx hf) (z5o (zS hN hj hy ik) zhs))
theorem xy(i j:Nat)(aJ:i≠j)(h:aj! mp a!)(h':E! mp j a!):z7o B! E mp (zlA X.K i j) (yN i j):=λO H Y ρ s x d Q r en dn ok=>by
 unfold yN at ok;split at ok
 ·obtain⟨p,vs,rfl,q1,q2⟩:=kW dn;obtain⟨v1,v2,rfl,e1,e2⟩:=za4 q2;have k1:=z8L (v:=v1) (z6j h O);have k2:=z8L (v:=v2) (show E! (iK! hS! i v1) j a! from by rw[_ab aJ];exact z6j h' O);exact⟨p,[v1,v2],rfl,q1,rfl,v1,[v2],rfl,v2,[],rfl,rfl,⟨k2.1.trans k1.1,λl u e=>k2.2 l u (k1.2 l u e)⟩,g4! ok ((en.set e1 i).set e2 j)⟩
 ·exact ok.elim
end
noncomputable def zx(N:al!)(ds:C!):Ev:=ds.map some++gW! (N.length-qe!) a!
theorem z0Y: rL! iO! (kH mg H Y (zx N ds) (L2.start N vs)):=λ{ds vs} h=>by
 have hl:=h.length;refine⟨by simp[zx,L2.start,hl],λi d e=>?_⟩;unfold zx at e;have hi:i<qe!:=by
  by_cases hi:i<qe!;·exact hi
  ·rw[_bu (by simpa using hi),_bc]at e;split at e<;>cases e
 rw[_G (by simpa using hi),_z]at e;obtain⟨v,h1,h2⟩:=h.get (by cases q:ds[i]? with
  | none=>rw[q]at e;cases e | some x=>rw[q]at e;simp at e;rw[e]);refine aQ! v ?_ h2;unfold L2.start;rw[_G (by simpa[hl] using hi),_z,h1];rfl
noncomputable def Mof(N:al!)(n:Nat)(fs:FS):Mir:=λds s=>aa! (qe!=n) (match fs (zx N ds) s with
 | .ok (.rt d) s'=>bR! d | .ok (.nx _) s'=>bR! at! | _=>.no)
section
variable {P:Program}{w:World}{K:W.Frag}{mg:Str->aN!}{base:Heap}
theorem Has.mono(h:Has P w K mg P! CX x n M)(hl:n<=m):Has P w K mg P! CX x m M:=by
 obtain⟨f,fd,ps,F,r⟩:=h;exact⟨f,fd,ps,F.mono hl,r⟩
theorem zpL{st:Stmt} (F:Fun K x ao! st f fd)(hm:mg x=a3! f)(hb:j6! K ps [])(S:S! N ps st)(hn:a5!=n) (body:r3! (hp! (jV! ao! cV! f aj)) ((z4E CX0 P w K mg P! N ao! cV! f aj A an! s H E).nox.calm=c!-> RSs (z4E CX0 P w K mg P! N ao! cV! f aj A an! s H E).nox E0 hR! fs)):Has P w K mg P! CX0 x (k+1) (Mof N n fs):=by
 subst hn;refine⟨f,fd,ps,F.ok S (qk! ?_) (λaj A outer s H vs Q E hr h=>?_),hb,F.kp,hm⟩
 ·obtain⟨Y,s,ds,_,dn,h⟩:=h;unfold Mof at h;split at h;·rename_i e;rw[dn.length];exact e
  ·exact h.elim
 ·obtain⟨Y,cv,ds,r,dn,h⟩:=h;refine⟨_,body aj A an! s H E hr (by show A.handled.isNone=c!;rw[show ne! from hr.hd];rfl),Y,zx N ds,cv,r,z0Y dn,?_⟩;unfold Mof at h;split at h
  ·split at h
   ·rename_i d s' e;rw[e];intro fv H' Y' stp fd;cases fv with
    | rt v=>exact h v H' Y' stp fd | _=>exact bV! fd
   ·rename_i ρ s' e;rw[e];intro fv H' Y' stp fd;cases fv with
    | nx v=>exact h at! H' Y' stp rfl | _=>exact bV! fd
   ·exact h.elim
  ·exact h.elim
theorem zq3{st:Stmt} (F:Fun K x ao! st f fd)(hm:mg x=a3! f)(hb:j6! K ps []):Has P w K mg P! CX0 x 0 (λ_ _=>.no):= ⟨f,fd,ps,⟨qk! (by obtain⟨_,_,_,_,_,h⟩:=h;exact h.elim),λA outer s H args us vs Q E _ _ _ _ h=>by obtain⟨_,_,_,_,_,h⟩:=h;exact h.elim⟩,hb,F.kp,hm⟩
end
def zmZ(K:W.Frag):Sp:=λvs H Q _=>∃(a:Addr)(ns:List Int),vs=[ad!]/\zsN H/\SqL K H a hD!/\e7!<=63/\∀H',Q eA! H'
theorem z49: ∀(ns:List Int),f9! H Y h3! hD!
 | []=>yj.nil | n::ns=>o3! yB (z49 ns)
theorem zqk{K:W.Frag} {x:Str} (F:z99 P w K mg P! CX0 n f fd ps (ziQ ⟨mg,K⟩ M)) (h:∀ns:List Int,e7!<=63->∃s',M [.scr h3!] []=bR! eA!):z99 P w K mg P! CX0 n f fd ps (zmZ K):= F.imp λvs H Q E ⟨a,ns,e,ho,hq,hl,q⟩=>by
  subst e;obtain⟨s',hs⟩:=h ns hl;refine⟨[],[],[.scr h3!],⟨rfl,List.nodup_nil,λl xs z=>by simp at z,λxs z=>by simp at z,λb h z=>by simp at z,λa ha=>by simp at ha⟩,yj.one ?_,?_⟩
  ·refine gB! a hD! ?_ (z49 ns);rcases hq with (z | z) | z
   ·rcases ho a with y | ⟨o,xs,y⟩;·rw[y]at z;cases z
    ·rw[y]at z;cases z
   ·exact w! z
   ·exact R! z
  ·rw[hs];intro v H' Y' stp dn;cases kO dn;exact q H'
section
variable {X:Cx}{E:XK}{e a b c tg iter az:Expr}{es:aC!}{pos:Pos}{CX:CXT}
noncomputable def z1M(f:FE):FE:=eu! (dV! (match d with | .int i=>T! (d! (-i)) | _=>.no))
theorem z31(h:W! a f):W! (.UnaryOp .USub a pos) (z1M f):= yk (zpW zkT h) λO H Q ⟨Y,ρ,s,r,en,h⟩=>by
  refine yI (k:=km! (match d with | .int i=>et! (aJ! (-i)) s1 | _=>.no)) r en h _ λv H1 Y1 s1 d r1 av dn stp h1=>?_;cases d with
  | int i=>
   cases yq dn;exact aA! i (nX! h1 r1 yB) | _=>exact h1.elim
noncomputable def z32(i:Int)(n:Nat):C!:=aS! n (λ(k:Nat)=>aJ! (i+Z! k))
noncomputable def zcn(f:FA):FI:=bW! aK! (ix! (match ds with
 | [.int i,.int j]=>aa! (-(2 ^ 62)<=i/\i<2 ^ 62/\-(2 ^ 62)<=j/\j<2 ^ 62) (T! (z32 i (j-i).toNat,[])) | _=>.no))
theorem zdI{p:Pos} (hg:oJ!)(hm:dx! e1!)(ha:RA X E [a,b] f)(hs:y! (aq! [a,b]=[dN! a,dN! b]))(bV:y! (aq! [b]=[dN! b])):RI X E tg (c9! e1! p [a,b]) (zcn f):= z7P (zgq hg hm ha hs bV) λO H Q ⟨Y,ρ,s,r,en,h⟩=>by
  refine⟨Y,ρ,s,r,en,c2! h (λvs H1 ⟨Y1,s1,ds,stp,dn,h1⟩=>?_)⟩;split at h1
  ·rename_i i j;split at h1
   ·rename_i hj;obtain⟨v,v',rfl,d1,d2⟩:=za4 dn;cases yq d1;cases yq d2;refine gB! i j hj (os! (λH2 Y2 s2 ag _ k=>⟨hY! ?_,λhl=>?_⟩))
    ·have hi:k<eQ! (j-i):=by simpa[z32] using (cE! hd)
     refine⟨hi,λx H' ⟨e1,e2⟩=>?_⟩;subst e1 e2;refine⟨Y2,.refl i6!,?_⟩;rw[(show d=aJ! (i+k) from by
      simp only[z32,_z,_aD hi,_af,_y]at hd;exact hd.symm)];exact yB
    ·rw[<- (show r! (z32 i (j-i).toNat)=eQ! (j-i) from by simp[z32])];exact hl
   ·exact h1.elim
  ·exact h1.elim
end
noncomputable def isK(o:bh! lb!)(k:NameKind):Bool:=match o,k with
 | some .local,.local=>true | some .cell,.cell=>true | some .free,.free=>true | some .globalImplicit,.globalImplicit=>true | _,_=>false
theorem zgP(h:isK o k=c!):o=b! k:=by cases o with
 | none=>cases k<;>cases h | some j=>cases j<;>cases k<;>first | rfl | cases h
noncomputable def isF(k:NameKind):Bool:=match k with | .free=>true | _=>false
theorem zoG(h:k=bK!):isF k=c!:=by subst h;rfl
noncomputable def zhB(ko:Str->bh! lb!)(names:dv! lb!):Bool:=names.all λy=>! isF y.2||(isK (ko y.1) .cell||isK (ko y.1) bK!)
theorem z4Z(h:zhB ko gX!=c!):∀y∈names,y.2=bK!->ko y.1=dk!\/ko y.1=b! bK!:=λy hy hf=>by
 have:=_S.mp h y hy;rw[zoG hf]at this;simp only[Bool.not_true,Bool.false_or,Bool.or_eq_true]at this;exact this.imp zgP zgP
noncomputable def zfR(names:dv! lb!):Bool:=names.all λy=>isK (names.lookup y.1) y.2
theorem z5d(h:zfR gX!=c!):∀y∈names,names.lookup y.1=b! y.2:=cO! (zgP (_S.mp h y hy))
section
variable {X:Cx}{E:XK}{e a b c tg iter az:Expr}{es:aC!}{pos:Pos}{CX:CXT}
variable {scope:Scope}{aC:aC!}{fi:FI}{fg:FG}{ft:FT}{fe:FE}{g:TG}{aF py:Pos}
theorem zu2(hg:eL!)(hm:∃t,X.mg x=b! (bJ! i))(hd:b8! (x==cz!)):W! mF! (O! i):=let ⟨_,h⟩:=hm;zpF hg h hd
theorem zL(N':al!)(mp:eC!)(hc:bY!)(hi:RI X E tg hV! fi)(hg:lF! cm! tg g)(cu:z7o B! E mp g fg)(ht:lC! cm! aC (tT B! E ft))(he:pK! cm! az fe) (aV:y! jU!)(aR:c6! (zfR ld!))(aI:c6! si!)(aW:c6! (kd! N' mp)) (hs:kT! (kL! x=kS!)):W! (fL! [gj! 0]) (zv fi mp fg ft fe):= zok N' mp hc hi hg cu ht he aV (z5d aR) (z4Z aI) aW hs
theorem zck(i:Nat){y:Str}(N':al!)(mp:eC!)(hN:X.N.Nodup)(hc:bY!)(hi:RI X E tg hV! fi)(hg:lF! cm! tg g)(cu:z7o B! E mp g fg)(ht:lC! cm! aC (tT B! E ft))(he:pK! cm! az fe) (aV:y! jU!)(aR:c6! (zfR ld!))(aI:c6! si!)(aW:c6! (kd! N' mp))(hy:y! (gd! y))(cM:mf! (h0! y)) (hs:kT! (kL! x=kS!)) (cN:y! (md! (fL! [gj! 0]) (b! gm!) qb!=rf!)) (hf:h2! (g8! y\/fB! y)): RS X E (.Assign [gm!] (fL! [gj! 0]) aF) (yu i (zv fi mp fg ft fe)):= zeB N' mp hN hc hi hg cu ht he aV (z5d aR) (z4Z aI) aW hy cM hs cN hf
theorem znj(i:Nat){y:Str}(N':al!)(mp:eC!)(hN:X.N.Nodup)(hc:bY!)(hi:RI X E tg hV! fi)(hg:lF! cm! tg g)(cu:z7o B! E mp g fg)(ht:lC! cm! aC (tT B! E ft))(he:pK! cm! az fe) (aV:y! jU!)(aR:c6! (zfR ld!))(aI:c6! si!)(aW:c6! (kd! N' mp))(hy:y! (gd! y))(cM:mf! (h0! y)) (hs:kT! (kL! x=kS!)) (cN:y! (md! (fL! [gj! 0]) (b! gm!) qb!=rf!)) (hf:h2! (g8! y\/fB! y)): RS X E (.Assign [gm!] (fL! [gj! 0]) aF) (yu i (z19 fi mp fg ft fe)):= zf5 N' mp hN hc hi hg cu ht he aV (z5d aR) (z4Z aI) aW hy cM hs cN hf
end
theorem zoR{K:W.Frag} {st:Stmt} (F:Fun K x ao! st f fd)(S:S! N ps st)(hn:a5!=n) (body:r3! (hp! (jV! ao! cV! f aj)) ((z4E CX0 P w K mg P! N ao! cV! f aj A an! s H E).nox.calm=c!-> RSs (z4E CX0 P w K mg P! N ao! cV! f aj A an! s H E).nox E0 hR! fs)):z99 P w K mg P! CX0 (k+1) f fd ps (ziQ ⟨mg,K⟩ (Mof N n fs)):=by
 subst hn;refine F.ok S (qk! ?_) (λaj A outer s H vs Q E hr h=>?_)
 ·obtain⟨Y,s,ds,_,dn,h⟩:=h;unfold Mof at h;split at h;·rename_i e;rw[dn.length];exact e
  ·exact h.elim
 ·obtain⟨Y,cv,ds,r,dn,h⟩:=h;refine⟨_,body aj A an! s H E hr (by show A.handled.isNone=c!;rw[show ne! from hr.hd];rfl),Y,zx N ds,cv,r,z0Y dn,?_⟩;unfold Mof at h;split at h
  ·split at h
   ·rename_i d s' e;rw[e];intro fv H' Y' stp fd;cases fv with
    | rt v=>exact h v H' Y' stp fd | _=>exact bV! fd
   ·rename_i ρ s' e;rw[e];intro fv H' Y' stp fd;cases fv with
    | nx v=>exact h at! H' Y' stp (by rfl) | _=>exact bV! fd
   ·exact h.elim
  ·exact h.elim
section
variable {all xs:C!}{ρ:Ev}{s:Sto}
theorem z58(I:Ev->Sto->j!):∀(xs:List D),(∀x∈xs,∀ ρ s,I ρ s->∃ ρ' s',body x ρ s=F! ρ' s'/\I ρ' s')->∀ ρ s,I ρ s->∃ ρ' s',yL [] all dI! xs ρ s=F! ρ' s'/\I ρ' s'
 | [],_,ρ,s,h=>⟨ρ,s,by simp[yL,okG],h⟩ | x::xs,hb,ρ,s,h=>by
  obtain⟨ρ1,s1,e1,h1⟩:=hb x (by simp) ρ s h;obtain⟨ρ2,s2,e2,h2⟩:=z58 I xs (cO! (hb y (by simp[hy]))) ρ1 s1 h1;exact⟨ρ2,s2,by simp[yL,okG,e1,e2],h2⟩
theorem zaC(f:D->D):∀(xs acc:List D),(∀x∈xs,body x s=k! (b! (f x)))->jG!+v!<=cap->qK [] all dI! xs acc s=k! (acc++nG! f)
 | [],acc,_,_=>by simp[qK,okG] | x::xs,acc,hb,hl=>by
  rw[qK];simp[okG,hb x (by simp),(show jG!<cap from by simp at hl;lia),(zaC f xs (acc++[f x]) (cO! (hb y (by simp[hy]))) (by simp at hl ⊢;lia))]
end
section
variable (i j k n:Nat)(ρ:Ev)(s:Sto)(f g fa fb fc:FE)(d x y:D)(ds:C!)(ar:FA)(op dj:D->D->bn!)(ft gx:FT)(fs dY:FS)(M:Mir)(T:String)(fl fh fo:FO)(fi:FI)(fg:FG)(mp:eC!)(N:al!)
@[simp] theorem yf:zd i ρ s=(match ρ[i]? with | some (some d)=>k! d | _=>.no):=V!
@[simp] theorem z00:eC d ρ s=k! d:=V!
@[simp] theorem yx:eOp op fa fb ρ s=z! (gk! s) (λx s1=>z! fK! (λy s2=>op x y s2)):=V!
@[simp] theorem yg:zg M ar ρ s=z! (ar ρ s) (i5! (M xs s1)):=V!
@[simp] theorem zM:zm ρ s=k! []:=V!
@[simp] theorem zy:zb f ar ρ s=jS! (λx s1=>z! (ar ρ s1) (λxs s2=>b2! (x::xs))):=V!
@[simp] theorem z1V:uP ar ρ s=z! (ar ρ s) (i5! (aa! j8! (T! aD!))):=V!
@[simp] theorem z6p:kY ar ρ s=z! (ar ρ s) (i5! (aa! j8! (T! cD!))):=V!
@[simp] theorem z8r:z9Z ar ρ s=z! (ar ρ s) (i5! (aa! (j8!/\c0! xs) (.ok sm! (s1++[xs])))):=V!
@[simp] theorem zuK:eIs T f ρ s=dV! (gIs T d s1):=V!
@[simp] theorem zg2:z1M f ρ s=dV! (match d with | .int i=>T! (d! (-i)) | _=>.no):=V!
@[simp] theorem ztw:zqH f ρ s=jS! (λx s1=>match x with | .bl k=>T! (.bl (!k)) | _=>.no):=V!
@[simp] theorem z8s:zc2 fa fb ρ s=z! (gk! s) (λx s1=>match x with | .bl true=>fK! | .bl false=>T! dg! | _=>.no):=V!
@[simp] theorem zpO:eIf ft fa fb ρ s=z! (ft ρ s) (λx s1=>aG! x (gk! s1) fK!):=V!
@[simp] theorem zbH:eSl f fl fh ρ s=jS! (λx s1=>z! (fl ρ s1) (λlo s2=>z! (fh ρ s2) (λhi s3=>dSl x lo hi s3))):=V!
@[simp] theorem qE:zD ρ s=k! a!:=V!
@[simp] theorem z1D:yy f ρ s=dV! (match d with | .int i=>T! ig! | _=>.no):=V!
@[simp] theorem qM:tOf f ρ s=dV! (match d with | .bl k=>T! k | _=>.no):=V!
@[simp] theorem zi0:zkN ft gx ρ s=z! (ft ρ s) (λx s1=>aG! x (gx ρ s1) (T! t!)):=V!
@[simp] theorem zsg:fOr ft gx ρ s=z! (ft ρ s) (λx s1=>aG! x (T! c!) (gx ρ s1)):=V!
@[simp] theorem z8C:z47 ft ρ s=z! (ft ρ s) (λx s1=>T! (!x)):=V!
@[simp] theorem zqy:zeo op dj fa fb fc ρ s=z! (gk! s) (λx s1=>z! fK! (λy s2=>z! (op x y s2) (λz s3=>match z with
 | .bl true=>z! (fc ρ s3) (λw s4=>dj y w s4) | .bl false=>.ok dg! s3 | _=>.no))):=V!
@[simp] theorem zko:zA fs dY ρ s=z! (fs ρ s) (λfl s1=>match fl with | .nx ρ'=>dY ρ' s1 | fl=>T! fl):=V!
@[simp] theorem zrR:yY ρ s=a6! ρ:=V!
@[simp] theorem zuE:fNo ρ s=.no:=V!
@[simp] theorem z0G:wk f ρ s=jS! (λ_ s1=>hl! ρ):=V!
@[simp] theorem yo:xc f ρ s=dV! (T! (.rt d)):=V!
@[simp] theorem z7r:fIf ft fs dY ρ s=z! (ft ρ s) (λx s1=>aG! x (fs ρ s1) (dY ρ s1)):=V!
@[simp] theorem zO:yu i f ρ s=dV! (hl! (jq! i!)):=V!
@[simp] theorem zhJ:zir f fg ρ s=dV! (z! (fg d ρ s1) (fun ρ' s2=>F! ρ' s2)):=V!
@[simp] theorem ztD:zqF i j ar ρ s=z! (ar ρ s) (ix! (match ds with | [x,y]=>hl! (iK! (jq! dR!) j y) | _=>.no)):=V!
@[simp] theorem ve:yh i d ρ s=k! (jq! i!):=V!
@[simp] theorem z8I:yN i j (p! [x,y]) ρ s=k! (iK! (jq! dR!) j y):=V!
@[simp] theorem zhq:z0y fa fb fc ρ s=z! (fc ρ s) (λd s1=>z! (gk! s1) (λo s2=>z! (fb ρ s2) (λi s3=>match o,i with
 | .loc l,.int k=>match s3[l]? with
  | some xs=>match kA! k with
   | some j=>aa! mw! (F! ρ (s3.set l (ip! j d))) | none=>.no
  | none=>.no
 | _,_=>.no))):=V!
@[simp] theorem jq:zT f ρ s=dV! (match d with
 | .tup xs=>T! (xs,[]) | .lst xs=>T! (xs,[]) | .loc l=>match s1[l]? with | some xs=>T! (xs,[(l,xs)]) | none=>.no
 | _=>.no):=V!
@[simp] theorem zdX:jB ar ρ s=z! (ar ρ s) (ix! (match ds with
 | [.int j]=>aa! (-(2 ^ 62)<=j/\j<2 ^ 62) (T! (rU!,[])) | _=>.no)):=V!
@[simp] theorem zmt:zcn ar ρ s=z! (ar ρ s) (ix! (match ds with
 | [.int i,.int j]=>aa! (-(2 ^ 62)<=i/\i<2 ^ 62/\-(2 ^ 62)<=j/\j<2 ^ 62) (T! (z32 i (j-i).toNat,[])) | _=>.no)):=V!
@[simp] theorem zgs:z4P ar ρ s=z! (ar ρ s) (ix! (match ds with
 | [x,y]=>match z8c s1 x,z8c s1 y with
  | some p,some q=>T! (z3S p.1 q.1,p.2++q.2) | _,_=>.no
 | _=>.no)):=V!
@[simp] theorem qJ:z4B fi fg fs ρ s=z! (fi ρ s) (λit s1=>yL it.2 it.1 (d5! (fg d ρ s) (fs ρ' s')) it.1 ρ s1):=V!
@[simp] theorem uK:zc7 fi mp fg ft f ρ s=z! (fi ρ s) (λit s1=>qK it.2 it.1 (λd s=>z! (fg d (vd mp ρ) s) (fun ρ' s'=>z! (ft ρ' s') (λb s2=>aG! b (z! (f ρ' s2) (λd s3=>.ok i! s3)) (b2! a!)))) it.1 [] s1):=V!
@[simp] theorem uw:zv fi mp fg ft f ρ s=z! (zc7 fi mp fg ft f ρ s) (i5! (T! cD!)):=V!
@[simp] theorem zdj:z19 fi mp fg ft f ρ s=z! (zc7 fi mp fg ft f ρ s) (i5! (aa! (c0! xs) (.ok sm! (s1++[xs])))):=V!
@[simp] theorem z3l:zZ ρ s=k! c!:=V!
@[simp] theorem z8y:zcH fa fb ρ s=z! (gk! s) (λo s1=>match o with
 | .loc l=>z! fK! (λd s2=>match s2[l]? with
  | some xs=>aa! (mw!/\v!<cap) (.ok at! (nZ! l (xs++[d]))) | none=>.no)
 | _=>.no):=V!
@[simp] theorem qO:vd [] ρ=[]:=V!
@[simp] theorem jD:vd (ig!::mp) ρ=(ρ[i]?).getD a!::vd mp ρ:=V!
@[simp] theorem jJ:vd (a!::mp) ρ=a!::vd mp ρ:=V!
variable (a b:Int)(u v:Bool)(xs ys:C!)
@[simp] theorem z81:xj fI! eE! s=u! (a+b):=rfl
@[simp] theorem z3N:xj aD! (p! ys) s=aa! (v!+dr!<=cap) (bf! (xs++ys)):=rfl
@[simp] theorem zdC:xj cD! ib! s=aa! (v!+dr!<=cap) (bw! (xs++ys)):=rfl
@[simp] theorem zfD:z7h fI! eE! s=u! (a-b):=rfl
theorem zfO:yT fI! eE! s=aa! (a.natAbs<BIG/\b.natAbs<BIG) (u! (a*b)):=by
 simp only[yT,dII,iOk];split<;>(rename_i h;split at h<;>simp_all)
theorem zgZ:z9i fI! eE! s=aa! (0<b/\b.natAbs<BIG) (u! (a / b)):=by
 simp only[z9i,dII,iOk];split<;>(rename_i h;split at h<;>simp_all)
theorem zon:zdO fI! eE! s=aa! (0<b) (u! (a % b)):=by
 simp only[zdO,dII,iOk];split<;>(rename_i h;split at h<;>simp_all)
theorem zll:zdP fI! eE! s=aa! (0<=b/\dm! b/\a.natAbs<e3!) (u! (a ^ o5!)):=by
 simp only[zdP,dII,iOk];split<;>(rename_i h;split at h<;>simp_all)
@[simp] theorem zuc:dLt fI! eE! s=aM! (dO! a b):=rfl
@[simp] theorem zuC:dLe fI! eE! s=aM! (jx! a b):=rfl
@[simp] theorem zri:dGt fI! eE! s=aM! (dO! b a):=rfl
@[simp] theorem zuq:dGe fI! eE! s=aM! (jx! b a):=rfl
@[simp] theorem zcA:dEq fI! eE! s=aM! (ga! a b):=by rfl
@[simp] theorem zct:dNe fI! eE! s=aM! (cr! a b):=by
 rw[dNe,(show eqD fI! eE!=ga! a b from by
  simp only[eqD,zum,PyData.eqv];rw[Bool.eq_iff_iff];rfl),_h (by constructor<;>rfl)];simp
@[simp] theorem zut:dEq (.bl u) (.bl v) s=aM! (u==v):=by cases u<;>cases v<;>rfl
@[simp] theorem zur:dNe (.bl u) (.bl v) s=aM! (u != v):=by cases u<;>cases v<;>rfl
end
theorem zn(h:aK!=F! ρ' s'):zA f g ρ s=g ρ' s':=by simp[h]
theorem ze9(h:aK!=bR! (.rt d)):zA f g ρ s=bR! (.rt d):=by simp[h]
theorem z10(I:Nat->Ev->Sto->j!):∀(xs:List D)(k:Nat),(∀j x,E! xs j x->∀ ρ s,I (k+j) ρ s->∃ ρ' s',body x ρ s=F! ρ' s'/\I (k+j+1) ρ' s')-> ∀ ρ s,I k ρ s->∃ ρ' s',yL [] all dI! xs ρ s=F! ρ' s'/\I (k+v!) ρ' s'
 | [],k,_,ρ,s,h=>⟨ρ,s,by simp[yL,okG],h⟩ | x::xs,k,hb,ρ,s,h=>by
  obtain⟨ρ1,s1,e1,h1⟩:=hb 0 x (by rfl) ρ s h;obtain⟨ρ2,s2,e2,h2⟩:=z10 (all:=all) I xs (k+1) (λj y hy ρ s hi=>by
   rw[(show k+1+j=k+(j+1) from by lia)]at hi ⊢;exact hb (j+1) y (by exact hy) ρ s hi) ρ1 s1 h1;refine⟨ρ2,s2,by simp[yL,okG,e1,e2],?_⟩;rw[(show k+r! (x::xs)=k+1+v! from by simp;lia)];exact h2
theorem z2y(h:E! (ym n) j x):j<n/\x=d! j:=by
 have hj:j<n:=by simpa[ym] using (cE! h)
 refine as! hj ?_;simp only[ym,_z,_aD hj,_af,_y]at h;exact h.symm
theorem zf8(h:x∈ym n):∃j:Nat,j<n/\x=d! j:=by
 obtain⟨j,hj,e⟩:=gu! h;have:=z2y (by rw[_b hj,e]);exact aQ! j (i7!).1 (i7!).2
theorem yH:∀(ns:List Int),c0! h3!
 | []=>rfl | n::ns=>yH ns
theorem z2d(i:Int):(aJ! i).flat=c!:=rfl
theorem z0k:∀{xs:List D}{d:D},c0! xs->d∈xs->mw!
 | x::xs,d,f,h=>by
  simp only[flC,flN,_Q]at f;rcases d2! h with rfl | h;·exact f.1
  ·exact z0k f.2 h
theorem jP.flatten(k:bz! (cI! o->(∀vs,o≠ci!)->(∀ah,o≠kX!)->(∀ah,a4! ah->o≠gE!)->H' b=b! o))(f:c0! ys)(e:H' c=H c)(ha:c∈Y)(ro:∀b,Own H Y b->b∉Y)(w:∀b vs,b∉Y->cI! ci!->H' b=L! vs)(h:jP mg H Y ys c):jP mg H' Y' ys c:=by
 rcases h with⟨vs,h1,h2⟩ | ⟨ah,h1,h2⟩ | ⟨o,ah,ys,h1,h2⟩ | ⟨ah,g,h1,h2⟩ | ⟨o,ah,ys,h1,e1,h2,fz⟩;·exact w! ⟨vs,mn!,h2.flatten k f⟩
 ·exact R! (w! ⟨ah,mn!,h2⟩)
 ·exact h5! (w! ⟨o,ah,ys,mn!,h2⟩)
 ·refine R! (h5! (w! ⟨ah,g,mn!,h2.imp (λzs vs k' hm q=>q.flatten k ?_) (λq b vs hm=>w b vs (ro b ⟨c,ha,ah,q,h1,hm⟩)) λb o vs q=>k b _ q (by intro vs z;cases z) (by intro vs z;cases z) (by intro vs g z;cases z)⟩));rcases hm with hm | hm;·exact (m4! (z0k f hm)).1
  ·exact (m4! (z0k f hm)).1
 ·subst e1;have f:c0! ys:=by exact f
  refine h5! (h5! ⟨o,ah,ys,mn!,rfl,h2.imp (λzs vs k' hm q=>q.flatten k ?_) (λq b vs hm z=>bV! (h2.fz fz.1 hm z)) λb o vs q=>k b _ q (by intro vs z;cases z) (by intro vs z;cases z) (by intro vs g z;cases z),fz⟩);rcases hm with hm | hm;·exact (m4! (z0k f hm)).1
  ·exact (m4! (z0k f hm)).1
end Dd
namespace Zz
open PySem.AutoSeq1 (wpAny_loadPart')
section
variable {P:Program}{w:World}{A:Around}{E:bP!}{s:Shared}
theorem zno{k:Nat} (he:IsEnum G! e it k bx) (h1:Sit b G! it l k) (c1:hF! b l xs) (ex:E! xs k x) (ne:e≠it) (q:∀h',IsEnumOut h' e it (h! k+1) x am!->Sit b h' it l (k+1)->f0! am! ({cls:=du!,data:=.seq #[bs! k ft!,x]})-> (∀c o,c≠e->c≠it->da! c->dn! c)->Q (b! fy!) {s with heap:=h',toks:=ft!+1}):fY! P w A (oY! (q! e)) Q E s:=by
 have hT:o1! (q! e) gp!:=b1! he;refine _a (_c6 (_ae hT _bs (_at _bs hT F.entry_enumerate_next ?_ (F.args_enumerate_next_1 _))));obtain⟨hp,g,d,tk,os⟩:=s;show wpAny _ _ (field (q! e) 2 >>= _) _ _ _;refine _a (jv! he (_a (nx h1 c1 ex λg1 t1 s1=>?_)));have e1 := bL! (s1.2 e ne) he;refine _a (jv! e1 ?_);refine _a (jv! e1 ?_);refine _a (wpAny_mkInt ?_);refine _a (_am e1 (by simp) λg2 e2 s2=>?_);refine _a (_am e2 (by simp) λg3 e3 s3=>?_);refine _a (_cE ?_);have e4:IsEnum (g3.push {cls:=du!,data:=.seq #[bs! k tk,x]}) e it (k+1) bx:=_g _ e3;generalize hg4:g3.push {cls:=du!,data:=.seq #[bs! k tk,x]}=g4 at e4;have sz:g3.objs.size=hp.objs.size:=by rw[s3.1,s2.1,s1.1]
 have el := _r he;have t4:g4.get? hp.objs.size=b! ({cls:=du!,data:=.seq #[bs! k tk,x]}):=by rw[<- hg4,<- sz];exact gN!
 have i4:Sit b g4 it l (k+1):=t1.to λo z=>by rw[<- hg4];exact _g _ (zG s3 ne.symm (zG s2 ne.symm z))
 rw[sz];refine _a ?_;refine _a (jv! e4 (_m ?_));refine _a (_cy ?_);refine _a (jv! e4 (_a (_am e4 (by simp) λg5 e5 s5=>?_)));refine _a ?_;refine _a (_am e5 (by simp) λg6 e6 s6=>?_);refine _am e6 (by simp) λg7 e7 s7=>?_;have up:∀c o,c≠e->g4.get? c=b! o->g7.get? c=b! o:=λc o n z=>zG s7 n (zG s6 n (zG s5 n z));refine _a (sp! (aA! _ (_m (q g7 e7 (i4.to λo z=>up _ o ne.symm z) (up _ _ (_cq el) t4) λc o n1 n2 z=>up c o n1 ((λc o n1 n2 z=>by rw[<- hg4];exact _g _ (zG s3 n1 (zG s2 n1 (zG s1 n2 z)))) c o n1 n2 z)))))
theorem zqs{k:Nat} (hh:ne!)(he:IsEnum G! e it k bx)(h1:Sit b G! it l k)(c1:hF! b l xs)(ex:xs[k]? = a!) (q:∀h',Heap.ExtBut it G! h'->Q a! {s with heap:=h'}):fY! P w A (oY! (q! e)) Q E s:=by
 have hT:o1! (q! e) gp!:=b1! he;refine _a (_c6 (_ae hT _bs (_at _bs hT F.entry_enumerate_next ?_ (F.args_enumerate_next_1 _))));show wpAny _ _ (field (q! e) 2 >>= _) _ _ _;refine _a (jv! he (_a (zg9 hh h1 c1 ex λh' x ed hx'=>?_)));obtain⟨o,ho,hc⟩:=hx';exact _a (wpAny_isInstance (cj! ho hc) isSubtype_stop (_m (q _ ed)))
end
theorem zkj(b:Bool)(l:Addr)(xs:cq!): Meets (Builtin.«enumerate.__new__» (dy! [aF! gp!,ei!])) (λ_ R s=>hF! b l xs/\R (lP! (q! (d1! (mb! b l)))) {s with heap:=cY! (mb! b l) ({cls:=aF! gp!,data:=eq! #[X!,.bool t!,fy!,rawInt 0,X!,X!]})}):= qY! (by
  obtain⟨hp,g,d,tk,os⟩:=s;obtain⟨c1,h⟩:=h;have bR:=sub_enumerate;have q1 := c1;obtain⟨o,hl⟩:∃o,hp.get? l=b! o:=by cases b with
   | true=>obtain⟨o,e,_⟩:=c1;exact di! o | false=>obtain⟨o,e,_⟩:=c1;exact di! o
  wp_walk using _ar hl;refine wpAny_stack_any λst=>_m ?_;split
  ·rename_i c _ _ _ _ _;cases (c==Value.type gp!)
   ·wp_walk using _ar hl,z80 q1;exact aA! _ h
   ·wp_walk using _ar hl,z80 q1;exact aA! _ h
  ·wp_walk using _ar hl,z80 q1;exact aA! _ h)
section
variable {P:Program}{w:World}{A:Around}{E:bP!}{s:Shared}
theorem zmT(c1:hF! b l xs) (h:∀h',IsEnum h' dD! am! 0 X!->Sit b h' am! l 0->(∀c o,da! c->dn! c)->Q (q! dD!) {s with heap:=h'}): fY! P w A (call (aF! gp!) [ei!]) Q E s:=by
 refine callType_new F.called_enumerate (by decide) (F.typeCall_enumerate_1 _) (F.newCall_enumerate_1 _) (λobj=>F.args_object_init_2 obj _) F.entry_enumerate_new (zkj b l xs) ⟨c1,?_⟩;have z1:d1! (mb! b l)=dD!:=_aG ..;have g2:=_v (mb! b l) (o:={cls:=aF! gp!,data:=eq! #[X!,.bool t!,fy!,rawInt 0,X!,X!]}) rfl;have g1:eK! (cY! (mb! b l) ({cls:=aF! gp!,data:=eq! #[X!,.bool t!,fy!,rawInt 0,X!,X!]})) am! (itO b l):=_g _ (_v _ (z5j b l));rw[z1]at g2;rw[z1];exact⟨b1! g2,h _ g2 (zaE g1) λc o e=>_g _ (_g _ e)⟩
end
end Zz
namespace L2
open Zz
def Ite(K:W.Frag)(b:Bool)(l:Addr):It:= ⟨λi H=>∃xs x,Sq b K H l xs/\aj! xs x, λi H v H'=>∃T x,H T=a!/\v=q! T/\H'=hE! T (p! [ac!,x])/\∀xs,Sq b K H l xs->aj! xs x, λi H=>∃xs,Sq b K H l xs/\v!<=i⟩
theorem zhc{P:Program}{w:World}{K:W.Frag}{bv:aC!}{kt:Nat}{tp:Pos}{b:Bool}{e it l:Addr}(ne:e≠it): zjd P w K (jp! bv tp) (Ite K b l) [e,it] e (λi h=>(∃bx,IsEnum h e it (Z! i) bx)/\Sit b h it l i) where
 mem:=by simp
 obj:=λi h ⟨⟨bx,he⟩,h1⟩ c hc=>by
  rcases (by simpa using hc) with rfl | rfl;·exact bG! he (λv z=>by simp at z)
  ·exact h1.ob
 keep:=λi h h' ⟨⟨bx,he⟩,h1⟩ k=>⟨⟨bx,k e (by simp) _ he⟩,h1.to λo z=>k it (by simp) o z⟩;item:=by
  intro X hP hw hK hc i ae s O H E I hf ⟨⟨bx,he⟩,h1⟩ ⟨xs,x,qx,ex⟩;subst hP hw hK;obtain⟨ix,rx,cx⟩:=I.sq qx;obtain⟨u,hu,ru⟩:=rx.get ex;refine zno he h1 cx (by simpa using hu) ne λg a1 a2 a3 hk=>aA! _ (wpAny_letOwnedTupleGo_enum a1 λg2 e2 s2=>?_);obtain⟨f0,f1,f2,f3,f4,f5⟩:=hf e (by simp);have new := I.fpOk ah! (mc! _);have el := _D (_r he);refine⟨fy!,hE! am! (p! [ac!,x]),((I.turnedL (t':=ft!+1) (λc o n z=>hk c o (λt=>n (by simp[t])) (λt=>n (by simp[t])) z) hf).turned (t':=ft!+1) (λc o n z=>zG s2 n z) f0 f1 f3 f4 f5).track new ⟨?_,[bs! i ft!,u],ep! (ch! _) (ep! ru cn!),⟨_,(zG s2 el.symm a3),rfl,rfl,_,rfl⟩⟩,rfl,⟨_,x,new.1,rfl,rfl,λzs qz=>?_⟩,⟨gc! (by simpa using e2),a2.to λo z=>zG s2 ne.symm z⟩,λc hc=>?_⟩;·show 2<=aW!;decide
  ·rw[I.sq_inj qz qx];exact ex
  ·rw[zJ (by
    rcases (by simpa using hc) with rfl | rfl;·exact el
    ·exact _D h1.lt)];exact (hf c hc).1
 done:=by
  intro X hP hw hK hc i ae s O H E I hf ⟨⟨bx,he⟩,h1⟩ ⟨xs,qx,hl⟩;subst hP hw hK;obtain⟨ix,rx,cx⟩:=I.sq qx;have lx:=rx.length;obtain⟨f0,f1,f2,f3,f4,f5⟩:=hf it (by simp);exact zqs g2! he h1 cx (by simp;lia) λg hk=>f5! (I.turned (λc o n z=>hk c o n z) f0 f1 f3 f4 f5)
 self:=λ_ _ _ _ _ ⟨⟨_,he⟩,_⟩ h=>wpAny_pyIter_enum he h
theorem zmp{bv:aC!}{kt:Nat}{tp:Pos} {p pos:Pos}(hg:ih! gp!)(hm:dx! gp!)(ha:PA X [a] ta)(hs:y! (aq! [a]=dN! a::aq! []))(au:dU! [] (·.1)): PI X (jp! bv tp) (c9! gp! p [a]) (λO H R=>ta O H λvs H1=>∃l b,vs=[ei!]/\(∃xs,Sq b X.K H1 l xs)/\R (Ite X.K b l) H1):=by
 refine λae s O H R I h=>_aq (z1t I hg hm (u:=aF! gp!) (by decide +kernel) (_aa (thn (ha pos ae s O H _ I h) λus s1 ⟨vs,H1,I1,r1,q1⟩=>?_) hs au) (by decide) (by decide));obtain⟨l,b,rfl,⟨xs,qx⟩,q⟩:=q1;obtain⟨u,rfl,ru⟩:=vals1 r1;cases ru;obtain⟨ix,rx,cx⟩:=I1.sq qx;refine zmT cx λg he h1 hk=>(wpAny_pyIter_enum he ⟨_,_,_,_,H1,rfl,nO! hk,zhc (Nat.succ_ne_self _),⟨gc! he,h1⟩,λc hc=>?_,q⟩);have cC:iv!<=c:=by
  rcases (by simpa using hc) with rfl | rfl;·exact _cW _
  ·exact ah!
 exact rC! cC cC
theorem z6d(ns:g!):∀n,n<=e7!->preSum (λi=>iG! i) n=(ns.take n).sum
 | 0,_=>by simp[preSum] | n+1,h=>by
  rw[preSum,z6d ns n (by lia),<- List.take_append_getElem ((by lia)),List.sum_append,(show iG! n=ns[n] from by simp[_b (show n<e7! by lia)])];simp only[_aA,List.sum_nil,Int.add_zero]
theorem zhU(hc:bY!):lJ! X "sum" (∃(b:Bool)(p:Addr)(ns:List Int),xs=[b9!]/\Sq b X.K H p hD!/\Q (d! ns.sum) H):=by
 intro ae s O H xs us Q I r h;obtain⟨b,p,ns,rfl,hq,q⟩:=h;obtain⟨u,rfl,ru⟩:=kJ!;cases ru;obtain⟨af,rv,co⟩:=I.sq hq;refine call_sum_walkG (sf! g2! co ?_);subst e2;refine⟨_,_,_,_,_,_,(λi=>iG! i),rfl,W,st,bd,(λi v e=>let ⟨t,e1,_⟩:=z74 rv e;as! t e1),λh' tk t' hk=>?_⟩;rw[(show iw!=e7! from by simp[(by have:=rv.length;simp at this;omega)]),z6d ns _ ah!,List.take_length];exact⟨d! ns.sum,H,lZ! (bx h' hk),ch! t',q⟩
end L2
namespace Dd
open L2
section
variable {X:Cx}{E:XK}{e a b c tg iter az:Expr}{es:aC!}{pos:Pos}{CX:CXT}
noncomputable def zuw(i j k:Nat)(f:FA):FS:=bW! aK! (ix! (match ds with | [x,y,z]=>hl! (iK! (iK! (jq! dR!) j y) k z) | _=>.no))
def zm1:C!->bn!
 | [d],s=>match z! (zV s d) intsOf with | some ns=>u! ns.sum | none=>.no
 | _,_=>.no
theorem zpP(hc:bY!):∃r,je! X "sum" r/\z1I X E r zm1:=jN! (zhU hc) (by
 unfold zm1 at h;split at h
 ·split at h
  ·rename_i ns e;obtain⟨xs,e1,e2⟩:=_bd.mp e;have:=z05 e2;subst this;obtain⟨v,rfl,dn⟩:=kU!;obtain⟨a,ws,rfl,q1,q2⟩:=jc r e1 dn;cases z07 q2;obtain⟨b,q⟩:=zdA q1;exact⟨b,a,ns,rfl,q,eB! yB⟩
  ·exact h.elim
 ·exact h.elim)
def z1Q:Nat->C!->C!
 | _,[]=>[] | i,x::xs=>p! [ac!,x]::z1Q (i+1) xs
theorem qY:∀(i:Nat)(xs:List D),r! (z1Q i xs)=v!
 | _,[]=>rfl | i,x::xs=>by simp[z1Q,qY (i+1) xs]
theorem z9z:∀{i k:Nat}{xs:List D}{d:D},E! (z1Q i xs) k d->∃x,E! xs k x/\d=p! [d! (Z! (i+k)),x]
 | _,_,[],_,h=>by cases h | i,0,x::xs,d,h=>by simp[z1Q]at h;exact⟨x,by rfl,by simp[h]⟩ | i,k+1,x::xs,d,h=>by
  simp only[z1Q,_d]at h;obtain⟨y,h1,h2⟩:=z9z h;refine⟨y,by exact h1,?_⟩;rw[h2,show i+1+k=i+(k+1) by lia]
noncomputable def z1S(f:FA):FI:=bW! aK! (ix! (match ds with
 | [x]=>match z8c s1 x with
  | some p=>T! (z1Q 0 p.1,p.2) | none=>.no
 | _=>.no))
theorem zbB{p tp:Pos}{bv:aC!}{kt:Nat} (hg:ih! gp!)(hm:dx! gp!)(ha:RA X E [a] f)(hs:y! (aq! [a]=dN! a::aq! []))(au:dU! [] (·.1)): RI X E (jp! bv tp) (c9! gp! p [a]) (z1S f):= z7P (zmp hg hm ha hs au) λO H Q ⟨Y,ρ,s,r,en,h⟩=>by
  refine⟨Y,ρ,s,r,en,c2! h (λvs H1 ⟨Y1,s1,ds,stp,dn,h1⟩=>?_)⟩;split at h1
  ·split at h1
   ·rename_i p ex;obtain⟨v,rfl,d1⟩:=z1B dn;obtain⟨io,b1,a1,rfl,k1⟩:=zcE ds! ex d1;obtain⟨w1,q1,_⟩:=k1 H1 Y1 s1 (.refl ds!) io;refine gB! a1 b1 (as! w1 q1) (os! (λH2 Y2 s2 ag og i=>⟨hY! ?_,λhl=>?_⟩))
    ·obtain⟨x,e1,rfl⟩:=z9z hd;obtain⟨w1,q1,n1⟩:=k1 H2 Y2 s2 ag og;obtain⟨u1,g1,m1⟩:=n1.get e1;refine⟨⟨w1,u1,q1,g1⟩,λz H' ⟨T,p,hT,ez,eH,hp⟩=>?_⟩;subst ez eH;have e3:=hp w1 q1;rw[g1]at e3;cases e3;have cE:=vj.lay (o:=p! [ac!,u1]) ag.rep hT (by intro _ z;cases z);refine aQ! Y2 cE ?_;simp only[_ap];exact gB! T [ac!,u1] yw ((o3! yB (yj.one m1)).mono cE)
    ·obtain⟨w1,q1,n1⟩:=k1 H2 Y2 s2 ag og;refine aQ! w1 q1 ?_;rw[n1.length];simpa only [qY] using hl
   ·exact h1.elim
  ·exact h1.elim
end
section
variable (i j k:Nat)(ρ:Ev)(s:Sto)(ar:FA)
@[simp] theorem znd:z1S ar ρ s=z! (ar ρ s) (ix! (match ds with
 | [x]=>match z8c s1 x with
  | some p=>T! (z1Q 0 p.1,p.2) | none=>.no
 | _=>.no)):=V!
end
end Dd
namespace L2
noncomputable def zmu(n:Nat):aU!:=aS! n (λk=>V.int (Z! k))
theorem z5P:∀{xs:List V}{us:List Value},mU!=v!->(∀(j:Nat) u,E! us j u->∃x,E! xs j x/\wA x u)->iN!
 | [],[],_,_=>cn! | [],_::_,h,_=>by cases h | _::_,[],h,_=>by cases h | x::xs,u::us,h,k=>by
  obtain⟨y,e,r⟩:=k 0 u (by rfl);have:y=x:=by simpa using e.symm
  subst this;exact ep! r (z5P (by simpa using h) λj v hv=>k (j+1) v (by exact hv))
theorem zbp{p p2 pos bL:Pos} (hc:bY!) (hg:ih! d0!) (hm:dx! d0!) (cO:oJ!) (cr:dx! e1!) (ha:PA X [a] ta) (bV:y! (aq! [a]=[dN! a])) (hs:y! (aq! [e6! (fi! e1!) [a] [] bL]=dN! (e6! (fi! e1!) [a] [] bL)::aq! [])) (au:dU! [] (·.1)): U! (c9! d0! p [e6! (fi! e1!) [a] [] bL]) (gt! (ta O H λvs H1=>∃j:Int,vs=[d! j]/\0<=j/\dm! j/\∀l,H1 l=a!->Q ei! (upd H1 l (ab! (zmu kj!))))):=by
 intro ae s O H Q I h;refine _aq (z1t I hg hm (u:=c1!) (by decide +kernel) (_aa ?_ hs au) (by decide) (by decide));refine _cA (_aq (z1t I cO cr boot_range (_aa (thn (ha bL ae s O H _ I h) λus s1 ⟨vs,H1,I1,r1,q1⟩=>?_) bV rfl) (by decide) (by decide)));obtain⟨j,e,q0,q2,q⟩:=q1;subst e;obtain⟨u,rfl,⟨t,rfl⟩⟩:=vals1 r1;refine call_range_1 (_cQ ?_);have bg:Builtin.Range.rangeSize 0 j 1=dM! kj!:=by rw[rangeSize_one];split<;>lia
 refine call_list_range g2! (IsRange.new ..) (small_one (by lia) (by lia) (by lia) (by lia)) bg (by lia) λh' tk acc c' hk hS bO=>?_;have I2:cB! H1 ({s1 with heap:=pZ! ({cls:=lA!,data:=eq! #[bs! 0 s1.toks,bJ! j,bs! 1 (s1.toks+1)]}),toks:=s1.toks+1+1}):=nO! (lI! _ e);have hl:r! (zmu kj!)=kj!:=by simp[zmu]
 refine⟨q! _,upd H1 _ (ab! (zmu kj!)),I2.laid hk ah! ?_,rfl,q _ (I2.hok.fresh ah!)⟩;exact⟨by rw[hl];exact _Y (show dm! kj! by lia) (by decide),acc.toList,c',(z5P (by simp[bO.1,hl]) λi v hv=>by
  obtain⟨nv,rfl⟩:=bO.2 i v (by simpa using hv);have hi:i<kj!:=by
   have:=cE! hv;simp[bO.1]at this;lia
  exact⟨ac!,by simp[zmu,hi],⟨nv,by simp⟩⟩),by exact hS⟩
end L2
namespace Dd
open L2
section
variable {X:Cx}{E:XK}{a:Expr}{pos:Pos}
theorem zjq(n:Nat):f9! H Y (ym n) (zmu n):=by
 unfold ym zmu;induction iD! with
 | nil=>exact yj.nil | cons k ks ih=>exact o3! yB ih
noncomputable def eLR(f:FA):FE:=bW! aK! (ix! (match ds with
 | [.int j]=>aa! (0<=j/\dm! j) (T! (ab! rU!)) | _=>.no))
theorem z6D{p p2 bL:Pos} (hc:bY!)(hg:ih! d0!)(hm:dx! d0!)(cO:oJ!)(cr:dx! e1!)(ha:RA X E [a] f) (bV:y! (aq! [a]=[dN! a])) (hs:y! (aq! [e6! (fi! e1!) [a] [] bL]=dN! (e6! (fi! e1!) [a] [] bL)::aq! []))(au:dU! [] (·.1)): W! (c9! d0! p [e6! (fi! e1!) [a] [] bL]) (eLR f):= yk (zbp hc hg hm cO cr ha bV hs au).freeze λO H Q ⟨Y,ρ,s,r,en,h⟩=>by
  refine⟨Y,ρ,s,r,en,c2! h (λvs H1 ⟨Y1,s1,ds,stp,dn,h1⟩=>?_)⟩;split at h1
  ·rename_i j;split at h1
   ·rename_i hj;obtain⟨v,rfl,d1⟩:=z1B dn;cases yq d1;exact⟨j,rfl,hj.1,hj.2,z04 ds! h1 (zjq _)⟩
   ·exact h1.elim
  ·exact h1.elim
@[simp] theorem zou(f:FA)(ρ:Ev)(s:Sto):eLR f ρ s=jS! (ix! (match ds with
 | [.int j]=>aa! (0<=j/\dm! j) (T! (ab! rU!)) | _=>.no)):=V!
end
noncomputable def wT(ft:FT)(fb:FS):Nat->Ev->fF! Fl
 | 0,_,_=>.no | k+1,ρ,s=>z! (ft ρ s) (λb s1=>aG! b (z! fK! (λfl s2=>match fl with
   | .nx ρ'=>wT ft fb k ρ' s2 | .ct ρ'=>wT ft fb k ρ' s2 | .bk ρ'=>F! ρ' s2 | .rt d=>b2! (.rt d))) (hl! ρ))
theorem z3j: ∀{k:Nat}{ρ:Ev}{s:Sto},wT ft fb k ρ s≠.no->wT ft fb (k+1) ρ s=wT ft fb k ρ s
 | 0,ρ,s,h=>f6! h | k+1,ρ,s,h=>by
  rw[wT]at h ⊢;conv=>rhs;rw[wT]
  cases e:ft ρ s with
  | no=>rfl | ex c t=>rfl | ok b s1=>
   rw[e]at h;simp only[Rb]at h ⊢;cases b with
   | false=>rfl | true=> cases e2:fK! with
    | no=>rfl | ex c t=>rfl | ok fl s2=>
     rw[e2]at h;cases fl with
     | nx ρ'=>exact z3j h | ct ρ'=>exact z3j h | bk ρ'=>rfl | rt d=>rfl
theorem zdG(h:wT ft fb k ρ s≠.no)(hm:k<=m):wT ft fb m ρ s=wT ft fb k ρ s:=by induction hm with
 | refl=>rfl | step _ ih=>rw[z3j (by rw[ih];exact h),ih]
open Classical in
def z1r(ft:FT)(fb:FS):FS:=eu! (if h:∃k,wT ft fb k ρ s≠.no then wT ft fb h.choose ρ s else .no)
theorem z2t(h:wT ft fb k ρ s=r)(hr:r≠.no):z1r ft fb ρ s=r:=by
 subst h;have hx:∃k,wT ft fb k ρ s≠.no:=as! k hr;unfold z1r;rw[ql! hx];rcases Nat.le_total k hx.choose with z | z;·exact zdG hr z
 ·exact (zdG hx.choose_spec z).symm
theorem z68(hp:PassesOwn (oy! X.w) X.A aX! X.xe)(hc:RT X E c ft)(hb:RSs X E dI! fb):RS X E (.While c dI! [] pos) (z1r ft fb):= kL (zk5 hp hc hb) λD O H ⟨Y,ρ,s,r,en,h⟩=>by
  unfold z1r at h;split at h
  ·refine⟨λm O H=>∃Y ρ s,Rep B! H Y s/\kH B! H Y ρ O/\iL! B! H Y (FlD B!) (wT ft fb m ρ s) (zgY D),⟨_,Y,ρ,s,r,en,h⟩,?_⟩;rintro m O H ⟨Y,ρ,s,r,en,h⟩;cases m with
   | zero=>exact h.elim | succ m=>
    refine⟨Y,ρ,s,r,en,c2! h (λb H1 ⟨Y1,s1,b',stp,eb,h1⟩=>?_)⟩;cases (eb);cases b with
    | false=> exact okR.here (b:=m8! O) h1 stp.rep h4! | true=>
     refine⟨λO' H'=>∃Y ρ s,Rep B! H' Y s/\kH B! H' Y ρ O'/\iL! B! H' Y (FlD B!) (wT ft fb m ρ s) (zgY D),λO' H' q=>⟨m,_b7 _,q⟩,Y1,ρ,s1,ds!,h4!,c2! h1 (λfv H2 ⟨Y2,s2,fl,ag,dn,h2⟩=>?_)⟩;cases fl with
     | nx ρ'=> cases fv with
      | nx O'=>exact⟨Y2,ρ',s2,i6!,dn,h2⟩ | _=>exact bV! dn
     | ct ρ'=> cases fv with
      | ct O'=>exact⟨Y2,ρ',s2,i6!,dn,h2⟩ | _=>exact bV! dn
     | bk ρ'=> cases fv with
      | bk O'=>exact okR.here (b:=m8! O') h2 ag.rep dn | _=>exact bV! dn
     | rt d=> cases fv with
      | rt v=>exact okR.here (Q:=zgY D) h2 ag.rep dn | _=>exact bV! dn
  ·exact h.elim
end Dd
namespace PySem
open PySem.AutoSeq1 (wpAny_loadPart')
open MeetsSeq MeetsSeq2 SeqAt
theorem zeE(f:Nat->β->Sem (ForInStep β))(I:Nat->β->eh!)(Q:β->eh!)(n:Nat) (turn:∀i b s,i<n->I i b s->fk! M A (f i b) (λr s'=>match r with | .yield b'=>I (i+1) b' s' | .done b'=>Q b' s') E) (fin:∀b s,I n b s->Q b s)(b:β)(h:I 0 b s):fk! M A (forIn ([0:n]:Std.Legacy.Range) b f) Q E:=by
 rw[Std.Legacy.Range.forIn_eq_forIn_range'];refine wpAny_forIn_list f (λjI b s'=>∃i,jI=n2! i (n-i)/\i<=n/\I i b s') _ ?_ ?_ _ _ ⟨0,by simp,gM!,h⟩
 ·rintro x jI b s' ⟨i,hr,hi,hI⟩;have bG:i<n:=by
   rcases Nat.lt_or_ge i n with h | h;·exact h
   ·rw[Nat.sub_eq_zero_of_le h]at hr;simp at hr
  obtain⟨rfl,fD⟩:x=i/\jI=n2! (i+1) (n-(i+1)):=by
   rw[(show n-i=(n-(i+1))+1 from by omega)]at hr;injection hr with h1 h2;exact as! h1 h2
  refine _Z (turn x b s' bG hI) (λr s2 hr=>?_) λ_ _ h'=>h';cases r with
  | done b'=>exact hr | yield b'=>exact⟨x+1,fD,bG,hr⟩
 ·rintro b s' ⟨i,hr,hi,hI⟩;have:i=n:=by
   have:=_aK List.length hr;simp at this;omega
  subst this;exact fin _ _ hI
theorem z7p(l:Addr) (items:cq!) (n:Nat) (dd:oz!) (sl:Array aN!) (x:Value) (e:eH! dG!) (j:Nat) (hj:j<hx!) (pO:e items[j]=c!) (fE:∀m (hm:m<items.size),m<j->e items[m]=t!): Meets (Builtin.«tuple.index» (dy! [ei!,x])) (λA R s=>fx! l ({cls:=du!,dict:=dd,data:=.seq gU! n,slots:=sl})/\(∀y,y∈gU!->EqAt A.in1 s y x (e y))/\R (lP! (bs! j ft!)) {s with toks:=ft!+1}):= qY! (by
  obtain⟨hp,g,d,tk,os⟩:=s;obtain⟨hl,he,h⟩:=h;wp_walk using _ar hl,zeE _ (λi b s'=>b.1=a!/\s'=eD! hp g d tk/\i<=j) _ _;case turn=>
   rintro i ⟨b1,b2⟩ s' hi ⟨hb,rfl,aJ⟩;rw[(Nat.min_self _)]at hi;rw[Array.getElem?_eq_getElem hi];refine _a (he _ (Array.getElem_mem hi) mT! w _ _ ?_);rcases _aP aJ with lt | rfl
   ·wp_walk;exact aA! rfl lt
   ·wp_walk;exact aA! _ h
  case fin=> omega
  case h=>exact aA! rfl gM!)
end PySem
namespace L2
section
variable {X:Cx}{o e:Expr}{to:TE}{t:TA}{name:Str}{ap ak:Pos}{id:String}{r:V->aU!->Hp->ej!}
theorem zol(slot:Slot dd! iu! id)(gS:typeOf (.builtin id)=dH! (aF! "method_descriptor"))(hm:MtR X id r)(ho:U! o to)(ha:PA X [e] t) (am:y! (lw! o iu! gg!=gg!)) (aH:c6! (hd! (hC! ak [e]) (! x.1)&&hd! (no! ak []) (iq! x.1) && bi! (r! [e]+r! ([]:gz!)+(nd! ([]:gz!) 0 1)<30))) (ai:c6! pH!)(hs:y! (aq! [e]=dF!::aq! []))(aw:y! ((hC! ak []).any (·.1)=t!)): U! (e6! (ml! o iu!) [e] [] ak) (gt! (to O H (hu! ((∃p vs,x=b9!/\H1 p=b! (p! vs))/\t O H1 λxs H2=>r x xs H2 Q)))):=by
 refine it! (_bW am aH ai rfl (thn (ho ae s O H _ I h) λv s1 ⟨x,H1,I1,r1,ty,q1⟩=>?_));obtain⟨p,vs,rfl,hp⟩:=ty;cases r1;obtain⟨_,af,_,ob,e1,c1,d1,n,w1⟩:=I1.hok p _ hp;refine⟨dd!,id,PySem.F.plainAttrs_tuple,slot,gS,aQ! ob e1 c1,λa e=>?_,?_⟩
 ·cases e;exact aQ! ob e1 d1
 have hA:=ha ak ae s1 O H1 _ I1 q1;rw[hs]at hA ⊢;exact _bX (by show (t!||(hC! ak []).any (·.1))=t!;rw[aw]<;>rfl) (_bv (thn hA λus s2 ⟨vs,H2,I2,r2,q2⟩=>hm ae s2 O H2 b9! vs _ us Q I2 rfl r2 q2))
theorem z3E:∀{ns:List Int}{af:List Value},hr! hD!->rh! af
 | [],_,.nil=>cn! | n::ns,_,.cons r rs=>by
  obtain⟨t,rfl⟩:=r;exact .cons n t (z3E rs)
def zt8:V->aU!->Hp->ej!:=λx vs H Q=>∃(p:Addr)(ns:List Int)(k:Int),x=b9!/\vs=[d! k]/\H p=b! (p! hD!)/\k∈ns/\Q (d! (pG!:Nat)) H
theorem zcY:MtR X "tuple.index" zt8:=by
 intro ae s O H x vs v us Q I rx rv h;obtain⟨p,ns,k,rfl,rfl,hp,hk,q⟩:=h;cases rx;obtain⟨u,rfl,⟨t,rfl⟩⟩:=vals1 rv;obtain⟨_,af,r,ob,e1,c1,d1,n,w1⟩:=gD! p hp;have hi:=z3E r;have ao:=hi.length;have hj := List.idxOf_lt_length_iff.mpr hk;obtain⟨cls,dd,data,sl⟩:=ob;simp only at c1 d1 w1;subst c1 d1 w1;refine _bh PySem.F.slot_tuple_index (b1! e1) PySem.F.entry_tuple_index (PySem.F.args_tuple_index_2 _ _) (z7p p e2! n _ sl (bJ! k) (isInt k) pG! (by simpa[ao] using hj) ?_ ?_) ⟨e1,cO! ((eq_isInt k t hi y (by simpa using hy)).at _ _),?_⟩
 ·show isInt k af[pG!]=c!;rw[isInt_at k hi _ (by omega) hj];simpa using _cF hj
 ·intro j nw bG;show isInt k af[j]=t!;rw[isInt_at k hi j (by simpa using nw) (by omega)];exact ne_of_lt_idxOf bG _
 ·exact⟨d! (pG!:Nat),H,lZ! (gr! e),ch! ft!,q⟩
end
end L2
namespace Dd
open L2
section
variable {X:Cx}{E:XK}{o e:Expr}{pos:Pos}
noncomputable def zlv(fo fv:FE):FE:=bW! (fo ρ s) (λo s1=>match o with
 | .tup ds=>z! (fv ρ s1) (λd s2=>match qh! ds,d with
  | some ns,.int k=>aa! (k∈ns) (b2! (d! (pG!:Nat))) | _,_=>.no)
 | _=>.no)
theorem zcW{ap:Pos} (ho:W! o fo)(hv:e0! fv)(am:y! (lw! o "index" gg!=gg!)) (aH:c6! (hd! (hC! pos [e]) (! x.1)&&hd! (no! pos []) (iq! x.1) && bi! (r! [e]+r! ([]:gz!)+(nd! ([]:gz!) 0 1)<30))) (ai:c6! (r8! nN!))(hs:y! (aq! [e]=dF!::aq! []))(aw:dU! [] (·.1)): W! (e6! (ml! o "index") [e] [] pos) (zlv fo fv):= yk (zol PySem.F.slot_tuple_index PySem.F.type_tuple_index zcY ho (wD hv z0v hs) am aH ai hs aw) λO H Q ⟨Y,ρ,s,r,en,h⟩=>by
  refine⟨Y,ρ,s,r,en,c2! h (λov H1 ⟨Y1,s1,od,stp,dn,h1⟩=>?_)⟩;cases od with
  | tup ds=>
   refine as! (by
    obtain⟨a,vs,rfl,e1,_⟩:=dn;exact eS! a vs e1) ⟨Y1,ρ,s1,ds!,h4!,c2! h1 (λv H2 ⟨Y2,s2,d,ag,ax,h2⟩=>?_)⟩;split at h2
   ·rename_i ns k ei;split at h2
    ·rename_i hk;obtain⟨a,vs,rfl,e1,e2⟩:=lD!;rw[z05 ei]at e2;cases z07 e2;cases yq ax;exact⟨a,ns,k,rfl,rfl,e1,hk,nX! h2 i6! yB⟩
    ·exact h2.elim
   ·exact h2.elim | _=>exact h1.elim
@[simp] theorem zoi (fo fv:FE)(ρ:Ev)(s:Sto):zlv fo fv ρ s=z! (fo ρ s) (λo s1=>match o with
 | .tup ds=>z! (fv ρ s1) (λd s2=>match qh! ds,d with
  | some ns,.int k=>aa! (k∈ns) (b2! (d! (pG!:Nat))) | _,_=>.no)
 | _=>.no):=V!
end
def zp3(P:Program)(w:World)(K:W.Frag)(mg:Str->aN!)(x:Str)(tb:mG!):j!:= ∃a o es ep,mg x=a3! a/\(a==sysModules)=t!/\oC!=b! o/\o.ExactDict/\hU!=.dict es ep/\PySem.KeysOf (wa P w) es/\ (∀k y,mk!=b! y->∃f,o6! (wa P w).is es (R! k)=a3! f/\mg y=a3! f)/\∀k,mk!=a!->o6! (wa P w).is es (R! k)=a!
theorem zak(r:wA (ax! k) u):(wa P w).is (R! k) u=c!:=by
 obtain⟨t,e⟩:=(r);subst e;exact z6I k t
section
variable {X:Cx}{E:XK}{e a b c:Expr}{es:aC!}{pos:Pos}{CX:CXT}
theorem zdk{O:L2.St} (I:K!)(hk:X.K.lookup d=b! o)(hx:o.ExactDict)(hd:hU!=.dict en ep)(ks:PySem.KeysOf (wa aR! X.w) en): s.heap.MapOf (wa aR! X.w) d (λk=>o6! (wa aR! X.w).is en k):=⟨o,en,ep,I.kIn d o hk,hx,hd,ks,λ_=>rfl⟩
noncomputable def zsl(tb:mG!)(f:FE):FE:=eu! (dV! (match d with
 | .str k=>match mk! with | some y=>T! (.fn y) | none=>.no
 | _=>.no))
theorem zrk(hT:zp3 aR! X.w X.K e4! x tb)(hg:eL!)(he:e0! f)(hs:zcL e)(aG:b8! (x==cz!)): W! (mi! (ff! p) e) (zsl tb f):=by
 obtain⟨d,o,en,ep,hm,lA,hk,hx,hd,ks,h1,h2⟩:=hT;refine yk (zp4 (r:=λv y H Q=>v=q! d/\∃k g,y=ax! k/\o6! (wa aR! X.w).is en (R! k)=a3! g/\Q (q! g) H) ?_ (z6z hg hm (show wA (q! d) (q! d) from rfl) aG) he hs) λO H Q ⟨Y,ρ,s,r,en',h⟩=>?_
 ·intro bi slice ae s O H v y u u2 Q I rx ry h bV;obtain⟨rfl,k,g,rfl,hf,q⟩:=h;cases rx;have mp:=zdk I hk hx hd ks;exact _bV mp.typeIs PySem.F.slot_dict_getitem.lookup (wpAny_getItem_of (zak ry) mp hf ⟨rfl,q! g,H,ia!,rfl,q⟩) bV
 ·refine⟨Y,ρ,s,r,en',c2! h (λv H1 ⟨Y1,s1,dd,stp,dn,q⟩=>?_)⟩;split at q
  ·rename_i k;split at q
   ·rename_i y hy;obtain⟨g,e1,e2⟩:=h1 k y hy;cases z06 dn;exact⟨rfl,k,g,rfl,e1,nX! q ds! (aA! g e2)⟩
   ·exact q.elim
  ·exact q.elim
noncomputable def zhk(tb:mG!)(cf:Bool)(f:FE):FE:=eu! (dV! (match d with
 | .str k=>T! (.bl (xor cf (iq! mk!))) | _=>.no))
theorem znf(hT:zp3 aR! X.w X.K e4! x tb)(hg:eL!)(he:e0! f)(ny:y! (behindInMarks .In (ff! p)=t!))(aG:b8! (x==cz!)): W! (.Compare e [.In] [ff! p] pos) (zhk tb t! f):=by
 obtain⟨d,o,en,ep,hm,lA,hk,hx,hd,ks,h1,h2⟩:=hT;refine yk (zhx (r:=λy v H Q=>v=q! d/\∃k,y=ax! k/\Q (.bl (iq! (o6! (wa aR! X.w).is en (R! k)))) H) ?_ he (z6z hg hm (show wA (q! d) (q! d) from rfl) aG) ny) λO H Q ⟨Y,ρ,s,r,en',h⟩=>?_
 ·intro ae s O H y v u u2 Q I ry rx h;obtain⟨rfl,k,rfl,q⟩:=h;cases rx;exact wpAny_in_of (zak ry) lA (zdk I hk hx hd ks) (bj! (.bl _) H ia! q)
 ·refine⟨Y,ρ,s,r,en',c2! h (λv H1 ⟨Y1,s1,dd,stp,dn,q⟩=>?_)⟩;split at q
  ·rename_i k;cases z06 dn;exact eS! rfl k (nX! q ds! (by change V.bl _=V.bl _;simp[(show iq! (o6! (wa aR! X.w).is en (R! k))=iq! mk! from by cases z:mk! with
    | none=>rw[h2 k z];rfl | some y=>obtain⟨g,e1,_⟩:=h1 k y z;rw[e1];rfl)]))
  ·exact q.elim
noncomputable def zdy(i:Nat)(Ms:dv! Mir)(f:FA):FE:=eu! (match ρ[i]? with
 | some (some (.fn y))=>match pF! with
  | some M=>jS! (i5! (M xs s1)) | none=>.no
 | _=>.no)
theorem zne(i:Nat) {p:Pos} {Ms:dv! Mir} (F:∀y M,pF!=b! M->Has aR! X.w X.K e4! eP! CX y n M) (hr:z1L n X.A) (ip:kF! X E) (ha:RA X E (e::es) f) (hN:y! (gd! x)) (hv:sk! x:=by first | exact bv! | exact Or.inr bv! | exact Or.inr bH!) (hd:b8! (x==cz!)) (bA:b8! (x==l! "__classdict__")) (he:y! (aq! (e::es)=dF!::if!)) (au:dU! es (·.1)):W! (c9! x p (e::es)) (zdy i Ms f):=by
 intro ae s O H Q I ⟨Y,ρ,st,r,en,h⟩;unfold zdy at h;split at h
 ·rename_i y hy;split at h
  ·rename_i M hM;obtain⟨v,nA,dv⟩:=en.at_ i (.fn y) hy;obtain⟨g,rfl,cY⟩:=dv;obtain⟨fa,fd,ps,Fk,hb,hk,hm⟩:=F y M hM;have e0:g=fa:=by cases cY.symm.trans hm;rfl
   subst e0;refine _aq (thn (zkY hN hv hd bA ae s O H (λv H1=>v=q! g/\H1=H) I (eS! (q! g) nA rfl)) λu s1 ⟨v,H1,I1,r1,e1,e2⟩=>?_);subst e1 e2;cases r1;exact _du I1.ok.mod.kin hk (thn (ha pos ae s1 O H1 (λvs H2=>ziQ B! M (vs++[]) H2 Q E) I1 (qo (k:=m7! (M xs s1)) r en h _ λvs H2 Y2 s2 ds r2 aY ax ag h3=>by
    rw[_aH];exact⟨Y2,s2,ds,r2,ax,h3⟩)) λus s2 ⟨vs,H2,I2,r2,q⟩=>as! I2.kIn (zeq Fk hr hb cn! ip I2 r2 q)) he au
  ·exact h.elim
 ·exact h.elim
@[simp] theorem zty(tb:mG!)(f:FE)(ρ:Ev)(s:Sto):zsl tb f ρ s=dV! (match d with
 | .str k=>match mk! with | some y=>T! (.fn y) | none=>.no
 | _=>.no):=V!
@[simp] theorem zqC(tb:mG!)(cf:Bool)(f:FE)(ρ:Ev)(s:Sto):zhk tb cf f ρ s=dV! (match d with
 | .str k=>T! (.bl (xor cf (iq! mk!))) | _=>.no):=V!
@[simp] theorem zjB (i:Nat)(Ms:dv! Mir)(f:FA)(ρ:Ev)(s:Sto):zdy i Ms f ρ s=match ρ[i]? with
 | some (some (.fn y))=>match pF! with
  | some M=>jS! (i5! (M xs s1)) | none=>.no
 | _=>.no:=V!
end
theorem vj.cut(stp:vj mg H Y H1 Y1 s1):vj mg H Y H1 rF! (qm! qc!):=by
 have dk:DkS H1 Y1 H1 rF!:=λb hb ah e=>di! (_R hb);refine⟨⟨by simp[stp.rep.len],stp.rep.nd.sublist (_cR _ _),λj ys h=>?_,λys h=>stp.rep.flat ys (_R h),λb h z=>stp.rep.own b (dk.own h) (_R z),dk.uq ds!⟩,?_,stp.keep,λc h1 h2=>stp.new c (_R h1) h2,stp.mt,stp.dom,λb h=>stp.ow b (dk.own h)⟩
 ·have hj:j<qc!:=by
   have:=cE! h;simp at this;lia
  rw[_al hj]at h ⊢;obtain⟨c,q1,q2⟩:=stp.rep.cell j ys h;exact⟨c,q1,q2.flatten (λ_ _ h _ _ _=>h) (stp.rep.flat _ (_u h)) rfl (_u q1) stp.rep.own (λ_ _ _ q=>q)⟩
 ·obtain⟨t,ht⟩:=stp.pre;exact⟨[],by rw[<- ht];simp⟩
theorem vj.frzC(stp:vj mg H Y H1 Y1 s1) (hl:qc!<=l)(hx:E! s1 l xs)(e1:E! Y1 l a)(ka:IsL H1 a):∃vs,H1 a=L! vs/\ ∀o,vj mg H Y (upd H1 a (dS! ci!)) rF! (qm! qc!)/\qX! (upd H1 a (dS! ci!)) rF! cD! ad!:=by
 obtain⟨vs,e2,e3⟩:=stp.rep.at_ hx e1 ka;refine⟨vs,e2,λo=>?_⟩;have an:a∉Y:=λz=>by
  obtain⟨j,hj,ej⟩:=gu! z;obtain⟨t,ht⟩:=stp.pre;have:=(_aY stp.rep.nd).mp (bL! (nL! (by rw[<- ht,_G hj,_b hj,ej])).2 ((nL! e1).2).symm);lia
 have a0 := stp.new a (_u e1) an;have k:∀b u,H1 b=b! u->(∀vs,u≠ci!)->(∀ah,u≠kX!)->(∀ah,a4! ah->u≠gE!)->upd H1 a (dS! ci!) b=b! u:=λb u h hn _ _=>by rw[zJ (λz=>by subst z;rw[e2]at h;exact hn vs (_I h).symm)];exact h
 have dk:DkS H1 Y1 (upd H1 a (dS! ci!)) rF!:=λb hb ah e=>by
  by_cases z:b=a;·subst z;rw[yw]at e;cases e
  ·rw[zJ z]at e;exact di! (_R hb)
 have mem:∀{j:Nat}{ys:List D},E! s1 j ys->c0! ys:=λe=>stp.rep.flat _ (_u e);refine as! ⟨⟨by simp[stp.rep.len],stp.rep.nd.sublist (_cR _ _),λj ys h=>?_,λys h=>stp.rep.flat ys (_R h),λb h z=>stp.rep.own b (dk.own h) (_R z),dk.uq ds!⟩,?_,λb u h n g=>?_,λc h1 h2=>stp.new c (_R h1) h2,ce! ?_,λb h=>stp.dom b (z9B h),λb h=>stp.ow b (dk.own h)⟩ ?_
 ·have hj:j<qc!:=by
   have:=cE! h;simp at this;lia
  rw[_al hj]at h ⊢;obtain⟨c,q1,q2⟩:=stp.rep.cell j ys h;refine⟨c,q1,q2.flatten k (mem h) (zJ λz=>?_) (_u q1) stp.rep.own (λb vs hb q=>by rw[zJ (show b≠a from λz=>hb (z ▸ _u e1))];exact q)⟩;subst z;have:=(_aY stp.rep.nd).mp (bL! (nL! q1).2 ((nL! e1).2).symm);lia
 ·obtain⟨t,ht⟩:=stp.pre;exact⟨[],by rw[<- ht];simp⟩
 ·rw[zJ (λz=>by subst z;rw[a0]at h;cases h)];exact stp.keep b u h n g
 ·have ne:b≠a:=λz=>an (z ▸ hb);rcases stp.mt b hb with⟨q1,q2⟩ | ⟨q1,q2,q3⟩;·exact w! ⟨q1,by rw[IsL,zJ ne];exact q2⟩
  ·exact R! ⟨q1,by rw[IsC,zJ ne];exact q2,λo u z=>by rw[zJ ne];exact q3 o u z⟩
 ·exact⟨a,o,vs,rfl,yw,(λf h=>h.flatten k f) (mem hx) e3⟩
noncomputable def zoW(n:Nat):R D->R D
 | .ok (.loc l) s1=>match s1[l]? with
  | some xs=>aa! (n<=l) (.ok cD! (qm! n)) | none=>.no
 | .ok _ _=>.no | .ex c s1=>.ex c s1 | .no=>.no
noncomputable def z4A(f:FE):FE:=eu! (zoW cf! aK!)
section
variable {X:Cx}{E:XK}{e:Expr}
theorem zhH(h:e0! f):e0! (z4A f):= yk (PE.freeze h) λO H Q ⟨Y,ρ,s,r,en,h⟩=>by
  refine⟨Y,ρ,s,r,en,?_⟩;unfold z4A zoW at h;split at h
  ·rename_i l s1 e1;rw[e1];split at h
   ·rename_i xs ex;split at h
    ·rename_i hl;intro v H1 Y1 stp dn;obtain⟨a,rfl,q1,ka⟩:=dn;obtain⟨vs,q2,q3⟩:=stp.frzC (by rw[r.len];exact hl) ex q1 ka;rw[<- r.len]at h;exact gB! a vs q2 (λo=>h _ _ _ (q3 o).1 (q3 o).2)
    ·exact h.elim
   ·exact h.elim
  ·exact h.elim
  ·rename_i e1;rw[e1];exact h
  ·exact h.elim
end
@[simp] theorem z2N(f:FE)(ρ:Ev)(s:Sto):z4A f ρ s=zoW cf! aK!:=V!
@[simp] theorem z9P: zoW cf! (gG! (s++[xs]))=k! cD!:=by simp[zoW]
noncomputable def zex(n:Nat):R D->R D
 | .ok (.loc l) s1=>ai! (l<n) (.ok ea! (qm! n)) (T! ea!) | .ok d s1=>ai! mw! (.ok d (qm! n)) (T! d) | r=>r
noncomputable def z4Q(M:Mir):Mir:=λds s=>zex cf! (M ds s)
theorem zm9(h:ziQ mg (z4Q M) vs H Q E):ziQ mg M vs H Q E:=by
 obtain⟨Y,s,ds,r,dn,h⟩:=h;refine⟨Y,s,ds,r,dn,?_⟩;unfold z4Q zex at h;split at h
 ·rename_i l s1 e;rw[e];split at h
  ·rename_i hl;intro v H1 Y1 stp dv;rw[<- r.len]at h;refine h v H1 _ stp.cut ?_;obtain⟨a,rfl,e1,ka⟩:=dv;exact mq! a (by rw[_al (by rw[r.len];exact hl)];exact e1) ka
  ·exact h
 ·rename_i d s1 hn e;rw[e];split at h
  ·rename_i hf;intro v H1 Y1 stp dv;rw[<- r.len]at h;exact h v H1 _ stp.cut (dv.flatten (λ_ _ h _ _ _=>h) hf)
  ·exact h
 ·exact h
section
variable {P:Program}{w:World}{K:W.Frag}{mg:Str->aN!}{base:Heap}
theorem Has.tidy(h:Has P w K mg P! CX x n M):Has P w K mg P! CX x n (z4Q M):=by
 obtain⟨f,fd,ps,F,r⟩:=h;exact⟨f,fd,ps,F.imp (qk! (zm9 h)),r⟩
end
@[simp] theorem z69(M:Mir)(ds:C!)(s:Sto):z4Q M ds s=zex cf! (M ds s):=V!
@[simp] theorem z0U(h:mw!):zex n (T! d)=.ok d (qm! n):=by cases d<;>first | exact nomatch (h:t!=c!) | simp[zex,h]
def zqx:D->D->bn!
 | x,.int k,s=>match lM! x with
  | some xs=>aa! (v!*dJ!<=cap/\-(2 ^ 62)<=k/\k<2 ^ 62) (bw! (hB! dJ! xs)) | none=>.no
 | _,_,_=>.no
theorem yj.flat_rep(h:he!):∀k:Nat,f9! H Y (hB! k xs) (hB! k vs)
 | 0=>by simpa using yj.nil | k+1=>by
  rw[_aM,_aM,_bt,_bt];exact h.append (h.flat_rep k)
section
variable {X:Cx}{E:XK}
theorem zsw:∃r,nm! r/\cK! zqx:=by
 refine bG! zkL.freeze ?_;intro H Y s d1 d2 v1 v2 Q r h1 h2 h;unfold zqx at h;split at h
 ·rename_i k;cases yq h2;split at h
  ·rename_i xs hx;split at h
   ·rename_i hl;obtain⟨l,vs,e,q1,q2⟩:=yn r hx h1;exact⟨l,k,vs,e,rfl,q1,by lia,by lia,by rw[q2.length];exact kM hl.1,z04 r h (q2.flat_rep _)⟩
   ·exact h.elim
  ·exact h.elim
 ·exact h.elim
end
section
variable {X:Cx}{E:XK}{e a b c:Expr}{es:aC!}{pos:Pos}{CX:CXT}
theorem zmo(F:Has aR! X.w X.K e4! eP! CX x n M)(hr:z1L n X.A)(hx:kF! X E)(hg:eL!)(aG:b8! (x==cz!)):W! (c9! x p []) (zg M zm):=by
 obtain⟨fa,fd,ps,F,hb,hk,hm⟩:=F;exact yk (zit F hr hg hm hk hb cn! hx aG) λO H Q ⟨Y,ρ,s,r,en,h⟩=>⟨Y,s,[],r,yj.nil,h⟩
end
section
variable {P:Program}{w:World}{K:W.Frag}{mg:Str->aN!}{base:Heap}{CX:CXT}{n:Nat}
noncomputable def zi8:dZ! DictEntry->dv! dG!
 | []=>[] | e::es=>match e.key with
  | .str k _=>(k,e.val)::zi8 es | _=>zi8 es
theorem z35{P:Program} {w:World} : ∀{es:List DictEntry},o6! (wa P w).is es.toArray (R! k)=nP! (zi8 es) k
 | []=>by simp[findBy,zi8] | e::es=>by
  have ih:=z35 (P:=P) (w:=w) (k:=k) (es:=es);simp only[findBy,List.find?_toArray]at ih ⊢;rw[List.find?_cons];cases hk:e.key with
  | str y t=>
   simp only[zi8,hk,_V];by_cases z:k=y
   ·subst z;simp[zco]
   ·rw[(show (wa P w).is (R! k) (.str y t)=t! from by
     rw[z7M];cases q:zcN (R! k) (.str y t) with
     | false=>rfl | true=>
      rcases yU q with⟨i,u,h1,h2⟩ | ⟨x,u,h1,h2⟩;·cases h2
      ·cases h1;cases h2;exact f6! z),show (k==y)=t! from by simpa using z];exact ih | _=>
   simp only[zi8,hk,(show (wa P w).is (R! k) e.key=t! from by
    rw[z7M];cases q:zcN (R! k) e.key with
    | false=>rfl | true=>
     rcases yU q with⟨i,u,h1,h2⟩ | ⟨x,u,h1,h2⟩;·cases h1
     ·rw[hk]at h2;cases h2)];exact ih
theorem zdl:∀y M,jn! ([]:dv! Mir) y M->Has P w K mg P! CX y n M:=λy M h=>by simp at h
theorem jN(h:Has P w K mg P! CX x n M0)(hs:∀y M,pF!=b! M->Has P w K mg P! CX y n M):∀y M,jn! ((x,M0)::Ms) y M->Has P w K mg P! CX y n M:=λy M e=>by
 rw[_V]at e;split at e
 ·rename_i hb;cases e;have:y=x:=by simpa using hb
  subst this;exact h
 ·exact hs y M e
end
def Sub(K:W.Frag)(h:Heap):j!:=∀p∈K,ex! p.1 p.2
theorem Sub.in_{K:W.Frag} (s:Sub K h):hM!:=λa o e=>by induction K with
 | nil=>simp at e | cons p K ih=>
  obtain⟨b,u⟩:=p;rw[_V]at e;split at e
  ·rename_i hb;cases e;have:a=b:=by simpa using hb
   subst this;exact s (a,o) (by simp)
  ·exact ih (λq hq=>s q (by simp[hq])) e
theorem z98(h:Heap)(a:Addr):Sub (zcl h a) h:=bo! (by
 unfold zcl at hp;split at hp
 ·rename_i o e;simp at hp;subst hp;exact e
 ·simp at hp)
theorem Sub.app{K L:W.Frag} (a:Sub K h)(b:Sub L h):Sub (K++L) h:=bo! (mx! hp (a p) (b p))
theorem zlS(h:Heap)(ns:al!):Sub (gat h ns) h:=by
 refine (z98 h _).app (bo! ?_);obtain⟨x,_,hx⟩:=List.mem_flatMap.mp hp;unfold ztN at hx;split at hx
 ·rcases mX! hx with hx | hx;·exact z98 h _ p hx
  ·split at hx
   ·split at hx;·exact z98 h _ p hx
    ·simp at hx
   ·exact z98 h _ p hx
   ·simp at hx
 ·simp at hx
def ztF(K:W.Frag)(x:Str)(st:Stmt):j!:=∃f fd,f2! K x=b! (a3! f)/\Fun K x x st f fd
theorem dA(s:Stmt):dArgs s=jt s:=by cases s<;>rfl
theorem dB(s:Stmt):zp0 s=xG s:=by cases s<;>rfl
theorem dS(s:Stmt):zkQ s=zj s:=by cases s<;>rfl
theorem zmD{K:W.Frag} {st:Stmt}(h:zjL K x=zqz x st):ztF K x st:=by
 unfold zjL zqz at h;split at h
 ·rename_i f hf;split at h
  ·rename_i oc od fd sl hl;simp only[_y,_bq]at h;obtain⟨h1,h2,h3,h4,h5,h6,h7,h8,h9,lB,gq⟩:=h;obtain⟨a1,a2,a3,a4,a5,a6,a7,a8,a9,a10,a11,a12,a13,ee,er⟩:=fd;simp only at h1 h2 h3 h4 h5 h6 h7 h8 h9 lB;subst h1 h3 h4 h5 h6 h7 h8 h9;subst h2;exact⟨f,_,hf,zpR hl lB gq⟩
  ·cases h
 ·cases h
theorem ziG{K:W.Frag} (h:zmA K x=c!):f2! K x=b! a!:=by
 unfold zmA at h;split at h;·rename_i e;exact e
 ·cases h
theorem zk8{K:W.Frag} (h:znO K x=ig!):∃t,f2! K x=b! (b! (bJ! i)):=by
 unfold znO at h;split at h;·rename_i j t e;cases h;exact di! t
 ·cases h
theorem zdm{K:W.Frag} (X:hM!)(G:or! mg):∀{es:List DictEntry}{tb:List (Str×Str)},zev K es (tb.map (·.2))=tb.map (λp=>(PyData.keyHash rW! p.1,b! p.1,c!))-> PySem.KeysOf (wa P w) es.toArray/\(∀k y,mk!=b! y->∃f,nP! (zi8 es) k=a3! f/\mg y=a3! f)/\∀k,mk!=a!->nP! (zi8 es) k=a!
 | [],[],_=>⟨λe he=>by simp at he,λk y h=>by simp at h,λk _=>by simp[zi8]⟩ | [],_::_,h=>by simp[zev]at h | _::_,[],h=>by simp[zev]at h | e::es,(k0,y0)::tb,h=>by
  simp only[_p,zev,_a7,_bq]at h;obtain⟨⟨h1,h2,h3⟩,h4⟩:=h;obtain⟨i1,i2,i3⟩:=zdm (P:=P) X G h4;obtain⟨hh,kk,vv⟩:=e;simp only at h1 h2 h3;cases kk with
  | str ks t=>
   simp only[zhN,_y]at h2;subst h2;obtain⟨f,rfl,e1⟩:=(show ∃f,vv=q! f/\f2! K y0=b! (a3! f) from by
    unfold sameRef at h3;split at h3
    ·rename_i f g e1;have:f=g:=by simpa using h3
     subst this;exact aA! f e1
    ·cases h3);refine⟨λe he=>?_,λk y hy=>?_,λk hy=>?_⟩
   ·simp only[_dk,_w]at he;rcases he with rfl | he;·exact⟨R! ks,z6I ks t,h1⟩
    ·exact i1 e (by simpa using he)
   ·simp only[zi8,_V]at hy ⊢;by_cases z:k=ks
    ·subst z;simp at hy ⊢;subst hy;exact W.mg_of X G e1
    ·rw[show (k==ks)=t! from by simpa using z]at hy ⊢;exact i2 k y hy
   ·simp only[zi8,_V]at hy ⊢;by_cases z:k=ks;·subst z;simp at hy
    ·rw[show (k==ks)=t! from by simpa using z]at hy ⊢;exact i3 k hy | _=>simp[zhN]at h2
theorem zm2{K:W.Frag} (X:hM!)(G:or! mg)(e:zn7 K x (tb.map (·.2))=zrh w tb):zp3 P w K mg x tb:=by
 unfold zn7 zrh at e;split at e
 ·rename_i a ha;split at e
  ·rename_i c d es ep sl hl;simp only[_y,_bq]at e;obtain⟨e1,e2,e3,e4,e5⟩:=e;obtain⟨i1,i2,i3⟩:=zdm X G e5;have hs:sl=#[]:=Array.eq_empty_of_size_eq_zero (by simpa using e3);refine⟨a,_,es,ep,W.mg_of X G ha,e4,hl,aQ! (by
    unfold zaX at e1;split at e1
    ·rename_i n;have:n=np!:=by simpa using e1
     rw[this]
    ·cases e1) (by simpa using e2) hs,rfl,i1,λk y hy=>?_,λk hy=>?_⟩;·rw[z35];exact i2 k y hy
   ·rw[z35];exact i3 k hy
  ·cases e
 ·cases e
def saysS(q:Ask)(w:World)(h:Heap):j!:=∃K:W.Frag,hM!/\zdE q K=iP! q
theorem zlM(q:Ask)(w:World)(s:Shared)(e:obsS q s=iP! q):saysS q w G!:=bG! (zlS _ _).in_ e
theorem zf1(q:Ask)(w:World)(h h':Heap)(x:saysS q w h)(k:bz! (cx! b->dn! b)):saysS q w h':=let ⟨K,a,b⟩:=x;⟨K,a.keeps k,b⟩
theorem z8u{α β:cd!}{f g:α->β}:∀{l:List α},mA!=mB!->∀x∈l,f x=g x:=λh x hx=>List.map_inj_left.mp h x hx
theorem zsV{K:W.Frag}(e:zdE q K=iP! q)(x:Str)(st:Stmt)(hx:(x,st)∈q.fs):ztF K x st:=zmD (z8u (_aK r2! e) (x,st) hx)
theorem zrB{K:W.Frag}(e:zdE q K=iP! q)(x:Str)(hx:x∈q.bs):f2! K x=b! a!:=ziG (z8u (_aK (λz=>z.2.1) e) x hx)
theorem ztb{K:W.Frag}(e:zdE q K=iP! q)(x:Str)(i:Int)(hx:(x,i)∈q.cs):∃t,f2! K x=b! (b! (bJ! i)):=zk8 (z8u (_aK (λz=>z.2.2.1) e) (x,i) hx)
theorem zr8{K:W.Frag} (X:hM!)(G:or! mg)(e:zdE q K=iP! q)(x:Str)(tb:mG!)(hx:(x,tb)∈q.ts):zp3 P w K mg x tb:=zm2 X G (z8u (_aK (λz=>z.2.2.2.1) e) (x,tb) hx)
theorem zhu{Ya:World->α} (row:String) (bo:∀w:World,jw! (W.fencedOpening rX! p w N) (G!,s.gens,s.drawn,ft!)=b! (jO!,jh!,pP!,pQ!)) (hf:on! (jw! (sq! p (sh! t!) N (eD! jO! jh! pP! pQ!)) (W.openSeen q nU! r4! Xt g0 s,Yf s)) (W.openGood q nU!,Ya (sh! t!))) (ht:on! (jw! (sq! p (sh! c!) N (eD! jO! jh! pP! pQ!)) (W.openSeen q nU! r4! Xt g0 s,Yf s)) (W.openGood q nU!,Ya (sh! c!))):W.LeftO p q nU! Xt Yf Ya N g0:= W.LeftO.of_split row λw=>by
  obtain⟨⟨h,gs,d,k,os⟩,e,e'⟩:=qi! (bo w);obtain⟨rfl,rfl,rfl,rfl⟩:h=jO!/\gs=jh!/\d=pP!/\k=pQ!:=by simpa only [_bq] using e'
  rw[e,_af,hf w os,ht w os]
theorem zaW: ∀{n:Nat}{s s':W.SharedT}{t:Thread},z6M tb p w n₀ dF n s t=b! s'->W.topRun tb p w n₀ dF n in! t=b! s'.abs
 | 0,_,_,_,h=>by cases h | n+1,s,s',t,h=>by
  unfold z6M at h;unfold W.topRun;cases he:W.through t with
  | true=>rw[he]at h;cases h;rfl | false=>
   rw[he]at h;cases hk:W.stepOk n₀ dF t with
   | false=>rw[hk]at h;cases h | true=>
    rw[hk]at h;cases hs:W.stepT (denote tb) p w s t with
    | none=>rw[hs]at h;cases h | some r=>rw[hs]at h;rw[W.stepT_spec hs];exact zaW h
theorem z7N{os:OsState} (ha:W.absHeap t0 m₀ h.life=h) (sz:(h.isNs lT!&&(jh!:rJ!).size==0,iW!,h.nsMap lT! "__annotations__")=(c!,m₀,dF)){α:cd!}{f:nF!->α}{v:α} (hr:(z6M rX! p w m₀ dF N ⟨t0,m₀,h.life,jh!,d,k,os⟩ (W.topStub p)).map (λsT=>(W.staticsOk r4! h qn!&&W.namesBound p qn!&&W.gensDone sT.abs&&W.laidKept h qn!,f sT.abs))=b! (c!,v)): (sq! p w N (eD! h jh! d k)).map f=bx!:=by
 obtain⟨sT,e1,e2⟩:=qi! hr;obtain⟨e3,e4⟩:=Prod.mk.inj e2;obtain⟨z1,z2,z3⟩:_/\_/\_:=by simpa only [_bq] using sz
 have r:=zaW e1;rw[(show (⟨t0,m₀,h.life,jh!,d,k,os⟩:pN!).abs=eD! h jh! d k from by
  show (eD! (W.absHeap t0 m₀ h.life) jh! d k:nF!)=_;rw[ha])]at r;have t:sq! p w N (eD! h jh! d k)=b! sT.abs:=by
  unfold W.topFrom;rw[z1,z2,z3,r];show (match (W.staticsOk r4! h qn!&&W.namesBound p qn!&&W.gensDone sT.abs&&W.laidKept h qn!) with | true=>b! sT.abs | false=>none)=_;rw[e3]
 rw[t,_af,e4]
theorem zbV{α β γ δ:cd!}{r:bh! α}{f:α->β}{g:α->γ}{k:α->δ}{x:β}{y:γ}{z:δ}(h1:m3! (λs=>(f s,k s))=b! (x,z))(h2:m3! g=b! y):m3! (λs=>(f s,(g s,k s)))=b! (x,(y,z)):=by
 obtain⟨s,e1,e2⟩:=qi! h1;obtain⟨s',e3,e4⟩:=qi! h2;rw[e1]at e3;cases e3;obtain⟨e5,e6⟩:=Prod.mk.inj e2;rw[e1,_af,e4,e5,e6]
theorem walkY{l:W.OpenLaw} (hn:l.most=b! n)(fm:n<=aW!)(ig:n<=63)(gW:d.params.defaults=[])(hr:hp! qa!) (F:∀(w:World)(mg:Str->Option Value)(fa:Addr)(h:Heap),YP w h->or! mg->mg d.name=a3! fa->XP mg h-> ∃K:W.Frag,hM!/\∃fd:FuncData,(∀(s:Shared)(u:Value),p4! s fd (dy! [u]) [(x,u)])/\ ∀base:Heap,K.In P!->sb! mg->z99 l.prog w K mg P! CX0 k fa fd [x] (zmZ K)): W.WalkO q nU! XP YP l.row.toRowW d [] (λf vs=>PySem.call f vs):=by
 refine Att.zcw hn gW λw s₀ s₁ mg mb fa o pm cd aE a vs ns G Yy ho hd bA cY dJ cI ao hg=>?_;obtain⟨K,KX,fd,hb,hF⟩:=F w mg fa _ Yy G.T.g cY G.X;exact zjw KX G.T.g G.T.b G.T.builtins G.T.nolimit hg dJ cI (_Y ao fm) hr hF hb (λH hO hS=>⟨a,ns,rfl,hO,hS,_Y ao ig,λ_=>rfl⟩) λH e s' z=>z
end Dd
namespace HT
section
variable {prog:Program}{w:World}{A:Around}{s:Shared}{E:bP!}
theorem zeR(n:Nat):Builtin.Slice.sliceAdjust a! a! (-1) (h! n)=(h! n-1,-1):=by
 unfold Builtin.Slice.sliceAdjust;rfl
theorem zf4(n:Nat):p7! (h! n-1) (-1) (-1)=n:=by
 unfold Builtin.Slice.slicePlaces;rw[_q (by decide)];by_cases h:n=0;·subst h;rfl
 ·rw[_h (by omega)];simp
theorem z4R{sl:Addr} {t:Tok} {n:Nat} {Q:Int×Int×Nat->eh!} (hs:rI! X! X! (bJ! (-1))) (h:Q (h! n-1,-1,n) s):ct! w A (Builtin.Slice.sliceApplied (q! sl) (dH! (h! n))) Q E s:=by
 obtain⟨os,ce,cW,cS⟩:=id hs;unfold Builtin.Slice.sliceApplied Builtin.Slice.sliceFields;refine _a (_a (_U ce cS (x:=X!) rfl (_a (_U ce cS (x:=X!) rfl (_a (_U ce cS (x:=bJ! (-1)) rfl (_m ?_)))))));refine _a (slicePart_int ?_);show fk! _ _ (aG! (h! (-1)==0) _ _) _ _;rw[_q (by decide)];refine _a (_cC (_a (_cC (_a (_m ?_)))));show fk! _ _ (match Builtin.Slice.sliceAdjust a! a! (-1) (h! n) with | (lo,hi)=>dH! (lo,h! (-1),p7! lo hi (-1))) _ _;rw[zeR n];show fk! _ _ (dH! (h! n-1,h! (-1),p7! (h! n-1) (-1) (-1))) _ _;rw[zf4];exact _m h
theorem ziw(xs:cq!):m0! (rG! qo! (λ(m:Nat)=>xs[(h! qo!-1+h! m*(-1)).toNat]?))=xs.toList.reverse.toArray:=by
 congr 1;have key:∀(k:Nat),k<=qo!->rG! k (λ(m:Nat)=>xs[(h! qo!-1+h! m*(-1)).toNat]?)=xs.toList.reverse.take k:=by
  intro k;induction k with
  | zero=>simp | succ k ih=>
   intro hk;rw[List.range_succ,List.filterMap_append,ih (by omega)];have h1:eQ! (h! qo!-1+h! k*(-1))=qo!-1-k:=by omega
   rw[_bE,h1,Array.getElem?_eq_getElem (by omega)];have hl:k<xs.toList.reverse.length:=by simp;omega
   rw[List.take_succ,_b hl];simp
 rw[key _ ah!,List.take_of_length_le (by simp)]
theorem z2V{t sl:Addr} {items:cq!} {tk:Tok} {Q:bP!} (ht:IsTup G! t gU!) (hs:rI! X! X! (bs! (-1) tk)) (h:Q fy! {s with heap:=hW! ({cls:=du!,data:=.seq items.toList.reverse.toArray})}) (bg:hx!<=aW!):ct! w A (getItem (q! t) (q! sl)) Q E s:=by
 have bY:sizeOk (.seq items.toList.reverse.toArray):=by
  show items.toList.reverse.toArray.size<=aW!;simpa using bg
 obtain⟨os,ce,cW,cS⟩:=id hs;have nB:o1! (q! sl) "slice":=aQ! os ce cW;unfold getItem;try with_reducible refine _aR ?_
 first | refine _a (_m ?_) | skip
 refine _a (_cS le! (by decide) ?_);refine _a (_ae (name:=Str.ofString "__getitem__") ht.typeIs _O (_at _O le! _co ?_ (_cD _ _)));show fk! _ _ (Builtin.Tuple.tupleItemsOf (q! t) >>= _) _ _;refine _a (tupleItemsOf_ ht ?_);refine _a (_dv nB ?_);rw[_h (by decide)];refine _a (z4R (n:=items.size) hs ?_);have fE:¬ ((h! hx!-1==0&&h! (-1)==1&&hx!==hx!)=c!):=by simp
 show fk! _ _ (aG! (h! hx!-1==0&&h! (-1)==1&&hx!==hx!) _ _) _ _;rw[_q fE,ziw];first
  | exact _a (m:=r7!) (_aE (_m (aA! _ (_m h))) bY) | exact _a (m:=r7!) (_aE (_a (_m (_m (aA! _ (_m h))))) bY) | exact _a (_a (m:=r7!) (_aE (_m (_m (aA! _ (_m h)))) bY)) | exact _a (_a (m:=r7!) (_aE (_m (aA! _ (_m h))) bY))
end
end HT
namespace L2
section
variable {X:Cx}{e m:Expr}{te:TE}{pos p2:Pos}
def zr4(K:W.Frag)(te:TE):TE:=gt! (te O H (hu! (∃a xs,x=ad!/\SqT K H1 a xs/\∀p,H1 p=a!->Q b9! (upd H1 p (p! xs.reverse)))))
theorem zny(he:U! e te) (hm:∀(ae:List (Addr×Obj)) (s:Shared) (O:St) (H:Hp),K!->bI! (evalPart (b! m) aX!) (λu s'=>∃t,u=bJ! (-1)/\lt! s') s): U! (mi! e (.Slice a! a! (b! m) p2)) (zr4 X.K te):=by
 intro ae s O H Q I h;refine Subscript_ (thn (he ae s O H _ I h) λv s1 ⟨x,H1,I1,r1,q1⟩=>?_);refine wpAny_Slice ?_;rw[evalPart_none];refine _m (_m ?_);refine thn (hm ae s1 O H1 I1) λu s3 ⟨t,eu,I3⟩=>?_;subst eu;have I4:cB! H1 ({s3 with heap:=s3.heap.push {cls:=aF! "slice",data:=eq! #[X!,X!,bJ! (-1)]}}):=I3.kept (t':=s3.toks) λb ob q=>_g _ q;obtain⟨a,xs,rfl,hx,q⟩:=q1;cases r1;obtain⟨af,r,ht,hz⟩:=I4.tuple hx;show bI! (subscriptTail e (.Slice a! a! (b! m) p2) ad! (q! s3.heap.objs.size)) (EP X ae O Q) ({s3 with heap:=s3.heap.push {cls:=aF! "slice",data:=eq! #[X!,X!,bJ! (-1)]}});refine tail_any (ops:=[ad!,q! s3.heap.objs.size]) ht.typeIs _O.lookup ?_ (by with_unfolding_all rfl);have ao:iw!=v!:=by rw[_s];exact r.length.symm
 refine HT.z2V ht (Heap.IsSliceOf.new ..) ?_ (by rw[ao];exact hz);refine⟨q! _,_,I4.laid (t':=s3.toks) (o:=p! xs.reverse) (λb ob q=>_g _ q) ah! ?_,rfl,q _ (I4.hok.fresh ah!)⟩;have hr:xn xs.reverse af.reverse:=by
  clear hx hz ht q I4 ao;induction r with
  | nil=>exact cn! | cons p _ ih=>rw[_bZ,_bZ];exact ih.append (ep! p cn!)
 refine⟨by simpa using hz,af.reverse,hr,?_⟩;have e:af.toArray.toList.reverse.toArray=af.reverse.toArray:=by rfl
 rw[e];exact zfp.new _ _
end
end L2
namespace Dd
open L2
section
variable {X:Cx}{E:XK}{e:Expr}{pos p2 p3 p4:Pos}
theorem yj.rev{mg:Gm}{H:Hp}{Y:bk!}:∀{xs:List D}{vs:List V},he!->f9! H Y xs.reverse vs.reverse
 | [],vs,h=>by obtain rfl:=h;exact yj.nil | d::ds,vs,h=>by
  obtain⟨v,r,rfl,h1,h2⟩:=h;rw[_bZ,_bZ];exact (yj.rev h2).append (.one h1)
noncomputable def zpM(f:FE):FE:=eu! (dV! (match d with
 | .tup xs=>T! (p! xs.reverse) | _=>.no))
theorem ztr{j:Nat} {f:FE} (he:e0! f):W! (mi! e (.Slice a! a! (b! (.UnaryOp .USub (jm! (d! 1) p3) p4)) p2)) (zpM f):= yk (zny he λae s O H I=>by
  rw[evalPart_some];refine thn ((zpW (pos:=p4) zkT (zlC (i:=1) (j:=j) (pos:=p3))) ae s O H (λv H1=>v=d! (-1)/\H1=H) I ?_) λu s1 ⟨x,H1,I1,r1,e1,e2⟩=>?_;·exact eS! 1 rfl rfl
  ·subst e1 e2;obtain⟨t,rfl⟩:=r1;exact aA! t I1) λO H Q ⟨Y,ρ,s,r,en,h⟩=>by
  unfold zpM at h;refine⟨Y,ρ,s,r,en,(okR.bind (Dn:=j2!) h).imp λv H1 ⟨Y1,s1,d,stp,dn,h1⟩=>?_⟩;cases d with
  | tup xs=>
   obtain⟨a,vs,rfl,q1,q2⟩:=kW (K:=X.K) dn;exact gB! a vs q1 (z3V ds! h1 q2.rev) | _=>exact h1.elim
end
section
variable {X:Cx}{E:XK}{e o a b c:Expr}{es:aC!}{pos:Pos}
def zeu:D->D->bn!
 | x,.int k,s=>match lM! x with
  | some xs=>aa! (v!*dJ!<=cap/\-(2 ^ 62)<=k/\k<2 ^ 62/\c0! (hB! dJ! xs)) (gG! (s++[hB! dJ! xs])) | none=>.no
 | _,_,_=>.no
theorem zoA:∃r,nm! r/\cK! zeu:=by
 refine bG! zkL ?_;intro H Y s d1 d2 v1 v2 Q r h1 h2 h;unfold zeu at h;split at h
 ·rename_i k;cases yq h2;split at h
  ·rename_i xs hx;split at h
   ·rename_i hl;obtain⟨l,vs,e,q1,q2⟩:=yn r hx h1;exact⟨l,k,vs,e,rfl,q1,by omega,by omega,by rw[q2.length];exact kM hl.1,zfB r h hl.2.2.2 (q2.flat_rep _)⟩
   ·exact h.elim
  ·exact h.elim
 ·exact h.elim
end
structure Fly(P:Program)(w:World)(outer:mu!)(H:Hp)(s:Shared)(C ea:Addr)(H':Hp)(s':Shared):j! where
 os:pW!=s.os
 bare:q0!
 un:Un mp! [] H H' G! gs!
 hok:HOk P w H' gs!
 fly:∃B a0,rg! B an! aT! a0 gs!/\bz! (sg!=b! o->(H' b≠a!\/((∃o',fx! b o')/\b∉mp!))->B.get? b=b! o)
def CX1(P:Program)(w:World):CXT:=λouter H s E e s'=>∃C ea H',e=q! ea/\Fly P w an! H s C ea H' s'/\E aT! a! H'
theorem HOk.cov{h h' B:Heap}(x:HOk P w H h)(c:bz! (cx! b->H b≠a!->B.get? b=b! o))(k:B.StaysIn h'):HOk P w H h':=λa o e=> (x a o e).stay (λb u hb q=>by
  refine k b u (c b u q ?_);rcases hb with rfl | hb;·rw[e];simp
  ·rw[hb];simp) (λ_ q=>q) λ_ _ q=>q
theorem zji(x:jG P w H h a o):∃ob,ex! a ob:=by cases o with
 | lst xs=>obtain⟨_,_,_,_,e⟩:=x;exact di! _ | tup xs=>obtain⟨_,_,_,ob,e,_⟩:=x;exact di! _ | dK ah=>obtain⟨_,_,_,_,o,_,_,e,_⟩:=x;exact di! _ | dT ah=>obtain⟨_,_,_,_,o,_,_,e,_⟩:=x;exact di! _ | set S n=>obtain⟨o,_,_,_,e,_⟩:=x;exact di! _ | ins C dx fs=>obtain⟨_,_,_,e,_⟩:=x;exact di! _ | own y=>exact x | xd fs=>obtain⟨_,⟨_,_,_,e,_⟩,_⟩:=x;exact di! _ | rng lo hi=>obtain⟨_,_,_,e⟩:=x;exact di! _ | frz ob u=>obtain⟨e,_⟩:=x;exact di! _ | tbl ps=>exact gc! x | met f y=>exact gc! x | ext φ=>obtain⟨_,e,_⟩:=x;exact e
section
variable {X:Cx}{E:XK}{ae:c4!}{O:L2.St}{H:Hp}{s:Shared}
theorem Inv.left(I:K!)(cj:k5!=[])(ho:kh!=an!)(fl:rg! B an! aT! a0 h')(sm:s.heap.UpToSlots h') (c:bz! (da! b->(H b≠a!\/((∃o',rz!=b! o')/\b∉mp!))->B.get? b=b! o)) (hg:rp! g): Fly aR! X.w an! X.H₀ X.s₀ C ea H ⟨h',g,d,t,s.os⟩:=by
 subst ho;have k:=fl.1;refine⟨jz!,hg,⟨λb o e n nf ne=>(k b o (c b o (pS! b o e n nf (by rw[cj];exact ne)) (d8! (di! o) nf))),λb o e n hf ne=>?_,λb o e n ne=>(rm! o e n (by rw[cj];exact ne)),λb o e ne=>?_,I.base.tups,I.base.frzs,I.base.tbls⟩,HOk.cov er! (λb o e n=>c b o e (w! n)) k,B,a0,fl,λb o e q=>?_⟩
 ·obtain⟨sl,e1⟩:=pT! b o e n hf (by rw[cj];exact ne);obtain⟨_,o2,e2,dc⟩:=I.funs.mem hf;rw[e1]at e2;cases e2;obtain⟨cH,e3⟩:=sm b _ e1 dc;exact as! cH e3
 ·by_cases hf:b∈frs kh!
  ·obtain⟨_,o2,e2,dc⟩:=I.funs.mem hf;obtain⟨cH,e3⟩:=sm b _ e2 dc;exact gc! e3
  ·obtain⟨o1,e1⟩:=ox! o e (by rw[cj];exact ne);exact⟨o1,k b o1 (c b o1 e1 (d8! (di! o) hf))⟩
 ·have back:∀o1,fx! b o1->B.get? b=b! o:=λo1 e1=>by
   have e2:=c b o1 e1 (q.imp id λz=>z);have:dn! b:=e;rw[(k b o1 e2)]at this;cases this;exact e2
  rcases q with q | ⟨⟨o',e'⟩,nf⟩;·cases z:H b with
   | none=>exact oP! q | some u=>
    obtain⟨o1,e1⟩:∃o1,fx! b o1:=zji (nI! b u z);exact back o1 e1
  ·obtain⟨o1,e1⟩:=ox! o' e' (by rw[cj];simp);exact back o1 e1
end
section
variable {P:Program}{w:World}{K:W.Frag}{mg:Str->aN!}{base:Heap}{N:al!}{qual:Str}{scope:Scope}{f:Addr}{cd:Value}{A:Around}{outer:mu!}{s:Shared}{H:Hp}{E:XK}
theorem z3w:(pu! ao! bt! f cd).frame=b! am!:=rfl
theorem z1G:Passes dA! (z4E dA! P w K mg P! N ao! bt! f cd A an! s H E) E:=by
 intro ae O H1 s1 e s' I h;obtain⟨C,ea,H',he,fl,hE⟩:=h;subst he;obtain⟨h2,g2,d2,t2,nC⟩:=s';have nD:nC=s1.os:=fl.os;subst nD;have I':=I.call (h':=h2) (g':=g2) (d':=d2) (t':=t2) (ch:=[]) fl.un fl.hok fl.bare (λb z=>oP! (by simp));obtain⟨B,a0,fw,cov⟩:=fl.fly;refine wpAny_leaves_onW (base:=B) (outer:=outer) I.ok.frames z3w fw λh' nE sm=>⟨C,ea,H',rfl,Inv.left I' rfl rfl nE sm (λb o e q=>cov b o e (q.imp id λz=>?_)) I'.bare,hE⟩;obtain⟨⟨o',e'⟩,nf⟩:=z;obtain⟨o1,e1⟩:=ox! o' e' (by show b∉([]);simp);refine⟨as! o1 e1,λz=>?_⟩;rcases d2! z with z | z
 ·have:=_r e';rw[z]at this;exact kD! i7! _
 ·exact nf z
theorem zpq{O:L2.St} (I:Inv (z4E dA! P w K mg P! N ao! bt! f cd A an! s H E) ae O H1 s1) (hx:Heap.MadeExcOf p0! h' e aT! jA!) (hE:E aT! a! H1): (z4E dA! P w K mg P! N ao! bt! f cd A an! s H E).xe (q! e) {s1 with heap:=h'}:=by
 refine wpAny_leaves_madeW (base:=W.hideAll p0! (frs (pu! ao! bt! f cd::an!))) (h:=s1.heap) (outer:=outer) I.ok.frames z3w (λb o q=>W.of_hideAll _ q) (W.funFrames_hide I.stack (λenv he b hb=>_cz.mpr ⟨env,he,hb⟩)) hx λpP t fw tup bt sm=>⟨C,e,H1,rfl,Inv.left I rfl rfl fw (bL! (Heap.UpToSlots.of_keeps hx.keeps) sm) (λb o eb q=>W.hideAll_get _ eb λz=>?_) iZ!,hE⟩;rcases q with q | ⟨⟨o',e'⟩,nf⟩;·exact q (I.stkFree b z)
 ·rcases d2! z with z | z
  ·have:=_r e';rw[z]at this;exact kD! i7! _
  ·exact nf z
end
def zg6(X:Cx) (E:XK):j!:=∀(ae:List (Addr×Obj)) (O:L2.St) (H1:Hp) (s1:Shared) (h':Heap) (e C:Addr) (args:List Value),cB! H1 s1->Heap.MadeExcOf p0! h' e aT! jA!->E aT! a! H1->X.xe (q! e) {s1 with heap:=h'}
def znT(K:W.Frag)(mg:Str->aN!)(x:Str):j!:=∃C,mg x=a3! C/\W.excIn K C bmV "ValueError.__new__"=c!
theorem zhO{K:W.Frag} (X:K.In h₀)(q:W.excIn K C bmB aX=c!): ∃bm N nm q bs hdct sn sub ab col dd k0 k1 k2 k3 k5 mN,h₀.get? C=b! (excClassObj nm q C N bs bm hdct sn sub ab col dd k0 k1 k2 k3 k5 aX)/\h₀.Ns N mN/\mN "__init__"=a!/\OwnTail h₀ bmB bm:=by
 unfold W.excIn at q;split at q
 ·rename_i dd cd sl ho;split at q
  ·rename_i C' bm k0 k1 k2 k3 n k5 hm hs;simp only[_Q,_aw,Bool.not_eq_true']at q;obtain⟨⟨⟨⟨⟨rfl,rfl⟩,iq⟩,ht⟩,hok⟩,gy⟩:=q;obtain⟨nm,bs,mro,ns,qn,hd,sn,sub,ab,col,pQ⟩:=cd;subst hm iq;have nF:sl=#[k0,k1,k2,k3,hH! n,k5]:=by
    obtain⟨l⟩:=sl;simp only at hs;rw[hs]
   subst nF;exact⟨bm,ns,nm,qn,bs,hd,sn,sub,ab,col,dd,k0,k1,k2,k3,k5,_,X _ _ ho,.of_isNs (W.isNs_of_in X hok),W.nsMap_none_of_in X hok gy,W.tail_of_in X ht⟩
  ·cases q
 ·cases q
section
variable {X:Cx}{E:XK}{pos:Pos}
noncomputable def z8d(c:Str):FS:=λ_ s=>ec!
theorem z8F(hk:znT X.K e4! x) (nG:zg6 X E) (hc:bY!) (hg:eL!) (hd:b8! (x==cz!)): RS X E (.Raise (b! (e6! (ff! np) [jm! (ax! m) p] [] ak)) a! pos) (z8d x):=by
 intro ae s O H D I h;obtain⟨Y,ρ,st,r,en,h⟩:=h;obtain⟨C,hm,hq⟩:=hk;have hE:E aT! a! H:=h H Y C (vj.refl r) hm;obtain⟨tl,Nn,nm,q,bs,hdct,sn,sub,ab,col,dd,k0,k1,k2,k3,k5,mN,hC,hN,gy,T⟩:=zhO I.mod.kin hq;refine wpAny_Raise_call_subT (C:=C) (nm:=nm) (q:=q) (N:=Nn) (bs:=bs) (bm:=tl) (hdct:=hdct) (sn:=sn) (sub:=sub) (ab:=ab) (col:=col) (dd:=dd) (k0:=k0) (k1:=k1) (k2:=k2) (k3:=k3) (k5:=k5) _bx (mN:=mN) (T.hasType _bx.hasBase) g2! rfl gy (z3u I hg hm (f5! (_bv (thn (wD (X:=X) (zl4 (X:=X)) (z0v (X:=X)) rfl ak ae s O H (λvs H1=>vs=[ax! m]/\H1=H) I (ch! rfl)) λus s2 h2=>?_))) hd);obtain⟨vs,H1,I1,r1,e1,e2⟩:=h2;subst e1 e2;obtain⟨u,rfl,ru⟩:=r1.one;exact⟨rfl,by show 1<=aW!;decide,I1.bk _ _ hC,hN.keeps I1.bk,T.keeps I1.bk,λh' e mk=>nG ae O _ s2 h' e C [u] I1 mk hE⟩
end
noncomputable def kT(N:al!)(n:Nat)(fs:FS):Mir:=λds s=>aa! (qe!=n) (match fs (zx N ds) s with
 | .ok (.rt d) s'=>bR! d | .ok (.nx _) s'=>bR! at! | .ex c s'=>.ex c s' | _=>.no)
section
variable {P:Program}{w:World}{K:W.Frag}{mg:Str->aN!}{base:Heap}
theorem zeL: Passes CX0 X E:=λ_ _ _ _ _ _ _ h=>h.elim
theorem zmb{st:Stmt} (F:Fun K x ao! st f fd)(hm:mg x=a3! f)(hb:j6! K ps [])(S:S! N ps st)(hn:a5!=n) (body:r3! (hp! (jV! ao! cV! f aj)) ((z4E dA! P w K mg P! N ao! cV! f aj A an! s H E).calm=c!-> RSs (z4E dA! P w K mg P! N ao! cV! f aj A an! s H E) E hR! fs)):Has P w K mg P! dA! x (k+1) (kT N n fs):=by
 subst hn;obtain⟨oc,od,kV,aE,pm,an,aj,ct,cF,rfl,lk,bA⟩:=F.ex;refine⟨f,_,ps,zod lk bA S (qk! ?_) (λA outer s H vs Q E hr h=>?_),hb,F.kp,hm⟩
 ·obtain⟨Y,s,ds,_,dn,h⟩:=h;unfold kT at h;split at h;·rename_i e;rw[dn.length];exact e
  ·exact h.elim
 ·obtain⟨Y,cv,ds,r,dn,h⟩:=h;refine⟨_,body aj A an! s H E hr (by show A.handled.isNone=c!;rw[show ne! from hr.hd];rfl),Y,zx N ds,cv,r,z0Y dn,?_⟩;unfold kT at h;split at h
  ·split at h
   ·rename_i d s' e;rw[e];intro fv H' Y' stp fd;cases fv with
    | rt v=>exact h v H' Y' stp fd | _=>exact bV! fd
   ·rename_i ρ s' e;rw[e];intro fv H' Y' stp fd;cases fv with
    | nx v=>exact h at! H' Y' stp (by rfl) | _=>exact bV! fd
   ·rename_i c s' e;rw[e];exact h
   ·exact h.elim
  ·exact h.elim
noncomputable def zv5(M:Mir):Mir:=λds s=>match M ds s with | .ex _ _=>.no | r=>r
end
noncomputable def z0s(f:FS):FS:=eu! (match aK! with | .ex _ _=>.no | r=>r)
theorem kN{st:Stmt} (h:RS X.nox E0 st f):RS X E st (z0s f):=λae s O H D I hw=>by
 obtain⟨Y,ρ,cv,r,en,q⟩:=hw;exact _Z (h ae s O H D (I.wish _) ⟨Y,ρ,cv,r,en,(by
  unfold z0s at q;cases e:f ρ cv with
  | ok d s'=>rw[e]at q;exact q | ex c s'=>rw[e]at q;exact q.elim | no=>rw[e]at q;exact q.elim)⟩) (λ_ _ q=>q.unwish) λ_ _ z=>lY! z
@[simp] theorem zmO(f:FS)(ρ:Ev)(s:Sto):z0s f ρ s=(match aK! with | .ex _ _=>.no | r=>r):=V!
@[simp] theorem zqE(c:Str)(ρ:Ev)(s:Sto):z8d c ρ s=ec!:=V!
theorem z55{K:W.Frag} : zg6 (z4E dA! P w K mg P! N ao! bt! f cd A an! s H E) E:=λ_ _ _ _ _ _ _ _ I hx hE=>zpq I hx hE
end Dd
namespace PySem
open PySem.Sem (wp)
section
variable {M:Model}{A:Around}{E:bP!}
theorem kq{h:Heap}{g:rJ!}{d:Drawn}{t:Nat}{os:OsState}{e C D:Addr}{oe:Obj}{Q:b5!->eh!} {nm q:Str}{N:Addr}{bs bm:cR!}{hdct:Bool}{sn:al!}{sub:cR!}{ab:Bool}{col:q5!}{dd:oz!}{k0 k1 k2 k3 k5:aN!}{aX:String} {lC q':Str}{N':Addr}{lD gA:cR!}{dC:Bool}{lE:al!}{fF:cR!}{lF:Bool}{fG:q5!}{lG:oz!}{lH lI lJ lK lL:aN!}{cP:String} (hC:ex! C (excClassObj nm q C N bs bm hdct sn sub ab col dd k0 k1 k2 k3 k5 aX))(hD:ex! D (excClassObj lC q' D N' lD gA dC lE fF lF fG lG lH lI lJ lK lL cP)) (he:ex! e oe)(cw:oe.cls=aT!)(am:gA.contains (aF! "BaseException")=c!)(bR:p1! (k2! C::bm) (q! D)=c!) (hq:Q c! (eD! h g d t)):wpAny M A (excMatches (q! e) (q! D)) Q E (eD! h g d t):=by
 have f:=tc_notTuple;repeat (first | (with_reducible rw[cw]) | with_reducible refine _aL hD ?_ | with_reducible refine _aL hC ?_ | (with_reducible refine wpAny_isSubtype_exc hD ?_;rw[(show p1! (k2! D::gA) (aF! "BaseException")=c! from by rw[List.contains_cons,am,Bool.or_true])]) | (with_reducible refine wpAny_isSubtype_exc hC ?_;rw[bR]) | wp_step)
 exact hq
end
end PySem
namespace Dd
open L2
theorem _root_.L2.Inv.locals{O:L2.St} (I:li! X ae O H s)(hn:h'.Ns jy! m')(sb:Heap.SameBut jy! G! h'): li! X ae (gW! X.N.length a!) H ({s with heap:=h',toks:=t}):=by
 have k:bz! (iC! b->da! b->dn! b):=λb o n e=>sb.extBut _ _ n e;have dZ:bz! (rz!=b! o->iC! b):=gr! (_D (_i cX! nH!));refine⟨mW!,jz!,iZ!,⟨λb o e n nf ne=>k b o (dZ b o e) (pS! b o e n nf ne),λb o e n hf ne=>?_,I.base.free,λb o e ne=>?_,I.base.tups,I.base.frzs,I.base.tbls⟩,⟨m',hn,λi x v h1 h2=>?_⟩,λx c e=>?_,is!,k7!,bo! ?_,λa o e=>?_,by simp⟩
 ·obtain⟨sl,e1⟩:=pT! b o e n hf ne;exact⟨sl,k b _ (dZ b o e) e1⟩
 ·obtain⟨o1,e1⟩:=ox! o e ne;exact⟨o1,k b _ (dZ b o e) e1⟩
 ·rw[_bc]at h2;split at h2<;>cases h2
 ·obtain⟨v,o,ho,hd⟩:=nn! x e;exact⟨v,o,k c o (I.cne x c e) ho,hd⟩
 ·obtain⟨q1,q2,q3,q4⟩:=kP! hp;exact⟨k p.1 p.2 q3 q1,q2,q3,q4⟩
 ·refine (nI! a o e).stay (λb u hb q=>k b u (λz=>?_) q) (λ_ q=>q) λ_ _ q=>q;have:=I.free;rw[<- z]at this;rcases hb with rfl | hb;·rw[e]at this;cases this
  ·rw[hb]at this;cases this
noncomputable abbrev Cx.at_(X:Cx)(pn:c4!)(xe:bP!):Cx:={X with pn:=pn,xe:=xe}
noncomputable abbrev Cx.mk_(X:Cx)(e:Addr)(pn:c4!):Cx:={X with A:=X.A.mark (a3! e),calm:=false,pn:=pn,xe:=iE!}
theorem Cx.ok_at(ok:X.Ok) : (o7! X pn xe).Ok:= ⟨ok.mod,ok.kind,ok.glob,ok.blt,ok.above,ok.inj,ok.has,ok.cab,ok.hd,ok.frames,ok.stk,ok.exf,ok.bs,ok.bsz,ok.noex,ok.exfs,ok.funs,ok.frf⟩
theorem Cx.ok_of(ok:(o7! X pn xe).Ok):X.Ok:= ⟨ok.mod,ok.kind,ok.glob,ok.blt,ok.above,ok.inj,ok.has,ok.cab,ok.hd,ok.frames,ok.stk,ok.exf,ok.bs,ok.bsz,ok.noex,ok.exfs,ok.funs,ok.frf⟩
theorem Cx.ok_mk(ok:X.Ok) : (qp! X e pn).Ok:= ⟨ok.mod,ok.kind,ok.glob,ok.blt,ok.above,ok.inj,ok.has,ok.cab,(λh=>by cases h),ok.frames,ok.stk,ok.exf,ok.bs,ok.bsz,ok.noex,ok.exfs,ok.funs,ok.frf⟩
section
variable {X:Cx}{ae:c4!}{O:L2.St}{H:Hp}{s:Shared}
theorem _root_.L2.Inv.at_(I:li! X ae O H s) : li! (o7! X (ir!++ae) xe) [] O H s:= ⟨Cx.ok_at mW!,jz!,iZ!,nJ!,lW!,nK!,is!,k7!,bo! (kP! (by simpa using hp)),er!,k6!⟩
theorem _root_.L2.Inv.of_at(I:li! (o7! X (ir!++ae) xe) pins' O H s):li! X ae O H s:= ⟨Cx.ok_of mW!,jz!,iZ!,nJ!,lW!,nK!,is!,k7!,bo! (kP! (_a9 _ hp)),er!,k6!⟩
theorem _root_.L2.Inv.mk_(I:li! X ae O H s) : li! (qp! X e (ir!++ae)) [] O H s:= ⟨Cx.ok_mk mW!,jz!,iZ!,nJ!,lW!,nK!,is!,k7!,bo! (kP! (by simpa using hp)),er!,k6!⟩
theorem _root_.L2.Inv.of_mk(ok:X.Ok)(I:li! (qp! X e (ir!++ae)) pins' O H s):li! X ae O H s:= ⟨ok,jz!,iZ!,nJ!,lW!,nK!,is!,k7!,bo! (kP! (_a9 _ hp)),er!,k6!⟩
theorem Fly.land{s s':Shared} (un:Un mp! [] H H' G! gs!)(hok:HOk P w H' gs!)(fw:rg! B an! aT! a0 gs!) (cov:bz! (sg!=b! o->(H' b≠a!\/((∃o',fx! b o')/\b∉mp!))->B.get? b=b! o))(dN:rg! B an! aT! a0 h5)(sm:s'.heap.UpToSlots h5): sy! ea=a!/\fJ! ea/\Un mp! [] H (upd H' ea (zkX C ea)) G! h5/\HOk P w (upd H' ea (zkX C ea)) h5/\∃oe,h5.get? ea=b! oe/\oe.cls=aT!:=by
 have k:=dN.1;obtain⟨oe,vs,T,oT,ts,he,⟨cw,_⟩,hd,_⟩:=dN.2.2.2;obtain⟨pR,fq,_,_,_,ed,_,gJ,_⟩:=fw.2.2.2;have new:sy! ea=a!:=by cases z:sy! ea with
  | none=>rfl | some o=>
   exfalso;obtain⟨o1,e1⟩:=un.there ea o z (by simp);by_cases hf:ea∈mp!
   ·obtain⟨_,o2,e2,dc⟩:=fw.2.2.1.mem hf;rw[ed]at e2;cases e2;exact dc _ gJ
   ·have:=cov ea o1 e1 (d8! (as! o z) hf);rw[fw.2.1]at this;cases this
 have hn:fJ! ea:=by cases z:H' ea with
  | none=>rfl | some u=>
   have:=cov ea _ ed (w! (by rw[z];simp));rw[fw.2.1]at this;cases this
 have fH:∀b u,H' b=b! u->b≠ea:=λb u e z=>by rw[z,hn]at e;cases e
 refine⟨new,hn,⟨λb o e n nf _=>(k b o (cov b o (un.keep b o e n nf (by simp)) (d8! (di! o) nf))),λb o e n hf _=>?_,λb o e n _=>?_,λb o e _=>?_,λb xs e=>?_,λb o u e=>?_,λb ps e=>?_⟩,λa o e=>?_,oe,he,cw⟩
 ·obtain⟨sl,e1⟩:=un.slot b o e n hf (by simp);obtain⟨_,o2,e2,dc⟩:=fw.2.2.1.mem hf;rw[e1]at e2;cases e2;obtain⟨cH,e3⟩:=sm b _ e1 dc;exact as! cH e3
 ·rw[zJ ((λb o e z=>by rw[z,new]at e;cases e) b o e)];exact un.free b o e n (by simp)
 ·by_cases hf:b∈mp!
  ·obtain⟨_,o2,e2,dc⟩:=fw.2.2.1.mem hf;obtain⟨cH,e3⟩:=sm b _ e2 dc;exact gc! e3
  ·obtain⟨o1,e1⟩:=un.there b o e (by simp);exact⟨o1,k b o1 (cov b o1 e1 (d8! (di! o) hf))⟩
 ·have q:=un.tups b xs e;rw[zJ (fH b _ q)];exact q
 ·have q:=un.frzs b o u e;rw[zJ (fH b _ q)];exact q
 ·obtain⟨more,q⟩:=un.tbls b ps e;exact⟨more,by rw[zJ (fH b _ q)];exact q⟩
 ·by_cases z:a=ea
  ·subst z;rw[yw]at e;cases e;exact⟨⟨oe,vs,he,cw,hd⟩,as! oe he,λh1 h2 ⟨o,ws,q1,q2,q3⟩ st=>⟨o,ws,st o q1,q2,q3⟩⟩
  ·rw[zJ z]at e;refine (HOk.cov hok (λb o e n=>cov b o e (w! n)) k a o e).stay (λb u _ q=>q) (λb q=>?_) λb xs q=>?_;·rw[zJ (fH b _ q)];exact q
   ·rw[zJ (fH b _ q)];exact q
end
def zrz(K:W.Frag)(mg:Str->aN!)(x y:Str):j!:=∃C D,mg x=a3! C/\mg y=a3! D/\W.excIn K C bmV "ValueError.__new__"=c!/\W.excIn K D bmV "ValueError.__new__"=c!/\ ∀h₀:Heap,K.In h₀->∃bm N nm q bs hdct sn sub ab col dd k0 k1 k2 k3 k5,h₀.get? C=b! (excClassObj nm q C N bs bm hdct sn sub ab col dd k0 k1 k2 k3 k5 "ValueError.__new__")/\p1! (k2! C::bm) (q! D)=c!
section
variable {prog:Program}{w:World}{A:Around}{E:bP!}{s:Shared}{env:Env}
theorem z5M{e C D:Addr} {jI:dZ! ExceptHandler} (h:ct! w (nj! e) (jZ! t) (λc s₁=>c=q! D/\ (∃bm N nm q bs hdct sn sub ab col dd k0 k1 k2 k3 k5 aX,oG! C (excClassObj nm q C N bs bm hdct sn sub ab col dd k0 k1 k2 k3 k5 aX)/\p1! (k2! C::bm) (q! D)=c!)/\ (∃bm N nm q bs hdct sn sub ab col dd k0 k1 k2 k3 k5 aX,oG! D (excClassObj nm q D N bs bm hdct sn sub ab col dd k0 k1 k2 k3 k5 aX)/\bm.contains (aF! "BaseException")=c!)/\(∃oe,oG! e oe/\oe.cls=aT!)/\ ct! w (nj! e) (setFlight (q! e) a!) (λ_ s₂=> ct! w (nj! e) (storeName env n (q! e)) (λ_ s₃=> ct! w (nj! e) (execs (b₀::suite) env) (λf s₄=>ct! w A (do bindName env n X!;unbindBehindTheSuite env n pos) (λ_ s₅=>Q f s₅) E s₄) (AsSuiteRaised hT! (nj! e) env n pos (notedBy hT! (nj! e) env (cameBackBy hT! A env E))) s₃) (notedBy hT! (nj! e) env (cameBackBy hT! A env E)) lX!) (notedBy hT! (nj! e) env (cameBackBy hT! A env E)) i0!) (notedBy hT! (nj! e) env (cameBackBy hT! A env E)) s): ct! w A (handleBy (q! e) env (.ExceptHandler (b! t) (b! n) (b₀::suite) pos::jI)) Q E s:=by
 refine wpAny_handleBy_cons (codeAny_handlers_test (_Z h (λc s₁ h₁=>?_) λ_ _ y=>y)) (by intro q;cases q);obtain⟨rfl,⟨bm,N,nm,q,bs,hdct,sn,sub,ab,col,dd,k0,k1,k2,k3,k5,aX,hC,bR⟩,⟨gA,N',lC,q',lD,dC,lE,fF,lF,fG,lG,lH,lI,lJ,lK,lL,cP,hD,am⟩,⟨oe,he,cw⟩,hk⟩:=h₁;exact kq hC hD he cw am bR (codeAny_handlers_suite_as hk)
end
noncomputable def zpp(cs:al!)(fb:FS)(j:Nat)(fh:FS):FS:=eu! (match fb ρ s with
 | .ex c s1=>aa! (c∈cs) (match fh (iK! (gW! nW! a!) j (.exc c)) s1 with
  | .ok (.rt d) s2=>b2! (.rt d) | _=>.no) | .ok (.rt d) s1=>T! (.rt d) | _=>.no)
section
variable {X:Cx}{E:XK}{pos fI np:Pos}
theorem zsf(dH:lV!=aX!::kh!) (aI:X.env.frame=b! jy!) (cj:k5!=[]) (cW:∀c∈cs,zrz X.K e4! c y) (hg:ih! y) (hN:X.N.Nodup) (hj:E! X.N j n) (dO:fB! n) (hb:∀(pn:List (Addr×Obj)) (xe:Value->Shared->Prop) (E1:XK),Passes (CX1 aR! X.w) (o7! X pn xe) E1->RSs (o7! X pn xe) E1 dI! fb) (hh:∀(e:Addr) (pn:List (Addr×Obj)),RSs (qp! X e pn) E0 (b₀::suite) fh) (aG:b8! (y==cz!)): RS X E (.Try dI! [.ExceptHandler (b! (.Name y np)) (b! n) (b₀::suite) fI] [] [] pos) (zpp cs fb j fh):=by
 intro ae s O H D I hw;obtain⟨Y,ρ,cv,r,en,h⟩:=hw;have ao:nW!=X.N.length:=by rw[en.len,I.len]
 refine wpAny_Try_except ?_;generalize hEb:(λ(e:Value) (s₁:Shared)=>bI! (noteFrame e aX!) (λ_ s₂=>bI! (setFlight e a!) (λ_ s₃=>bI! (handleBy e aX! [.ExceptHandler (b! (.Name y np)) (b! n) (b₀::suite) fI]) (SP X ae D) s₃) lX!) i0!)=Eb;let E1:XK:=λv _ H'=>∃c Y' ay C d s2,v=aT!/\c∈cs/\X.mg c=a3! C/\vj B! H Y H' Y' ay/\fh (iK! (gW! nW! a!) j (.exc c)) ay=b2! (.rt d)/\iL! B! H Y (FlD B!) (b2! (.rt d)) (zgY D);have iu:Passes (CX1 aR! X.w) (o7! X (ir!++ae) Eb) E1:=by
  intro pins' O' H1 s1 e s' I1 nH;obtain⟨C,ea,H',he,fl,hE⟩:=nH;subst he;obtain⟨c,Y',ay,C',d,s2,eC,cU,gB,stp,nI,ok⟩:=hE;cases eC;have J1:=I1.of_at;obtain⟨B,a0,fw,cov⟩:=fl.fly;have fw:rg! B (aX!::kh!) aT! a0 gs!:=by rw[<- dH];exact fw
  have un:Un (frs (aX!::kh!)) [] H1 H' p0! gs!:=by rw[<- dH];exact fl.un
  have land:∀h5,rg! B (aX!::kh!) aT! a0 h5->s'.heap.UpToSlots h5->li! X ae O' (upd H' ea (zkX C ea)) ({s' with heap:=h5})/\fJ! ea/\∃oe,h5.get? ea=b! oe/\oe.cls=aT!:=λh5 dN sm=>by
   obtain⟨_,hn,nJ,iw,oe⟩:=Fly.land un fl.hok fw (by rw[<- dH];exact cov) dN sm;exact⟨J1.call' (s':={s' with heap:=h5}) (ch:=[]) fl.os (by rw[dH];exact nJ) iw fl.bare (λb z=>oP! (by simp)),hn,oe⟩
  rw[<- hEb];refine wpAny_looks_onW (base:=B) (by rw[<- dH];exact J1.ok.frames) aI fw λh4 iz lM=>?_;refine wpAny_landsW iz λh5 dN lN=>?_;obtain⟨I5,pS,nK⟩:=land h5 dN (lM.trans lN);obtain⟨C2,D2,cr,nM,q1,q2,bR⟩:=cW c cU;rw[gB]at cr;cases cr;refine z5M (C:=C) (D:=D2) (z3u (X:=qp! X ea (ir!++ae)) I5.mk_ hg nM ⟨rfl,?_,?_,nK,?_⟩ aG)
  ·obtain⟨bm,N,nm,q,bs,hdct,sn,sub,ab,col,dd,k0,k1,k2,k3,k5,hC,hs⟩:=bR _ I5.kIn;exact⟨bm,N,nm,q,bs,hdct,sn,sub,ab,col,dd,k0,k1,k2,k3,k5,_,hC,hs⟩
  ·obtain⟨bm,N,nm,q,bs,hdct,sn,sub,ab,col,dd,k0,k1,k2,k3,k5,mN,hC,pT,gy,T⟩:=zhO I5.kIn q2;exact⟨bm,N,nm,q,bs,hdct,sn,sub,ab,col,dd,k0,k1,k2,k3,k5,_,hC,T.hasType _bx.hasBase⟩
  ·refine lands_againW dN λh6 nN nO=>?_;obtain⟨I6,nP,pU⟩:=land h6 nN (bL! (lM.trans lN) nO);refine z2r (X:=qp! X ea (ir!++ae)) I6.mk_ hN hj (w! dO) (show wA (q! ea) (q! ea) from rfl) (λs7 I7=>?_) (R! dO);have nQ:vj B! H' Y' (upd H' ea (zkX C ea)) Y' ay:=vj.lay ds! nP (by intro vs z;cases z);have fJ:=stp.trans nQ;have nR:kH B! (upd H' ea (zkX C ea)) Y' (iK! (gW! nW! a!) j (.exc c)) (O'.set j (a3! ea)):=by
    refine⟨by rw[List.length_set,List.length_replicate,List.length_set,ao];exact J1.len.symm,λi d' hi=>?_⟩;by_cases z:j=i
    ·subst z;have lO:j<r! (gW! nW! (a!:q6!)):=by
      have:=cE! hi;simpa using this
     rw[_ag lO]at hi;cases hi;refine⟨q! ea,by rw[_ag (by rw[J1.len,<- ao];simpa using lO)],?_⟩;simp only[Den];exact gB! ea C gB yw
    ·rw[_ab z,_bc]at hi;split at hi<;>cases hi
   have run:=hh ea (ir!++ae) [] s7 (O'.set j (a3! ea)) (upd H' ea (zkX C ea)) {nx:=iE!,rt:=D.rt} I7 ⟨Y',_,ay,fJ.rep,nR,by
    rw[nI];intro fv H2 Y2 ag fd;cases fv with
    | rt v=>exact ok (.rt v) H2 Y2 (fJ.trans ag) fd | _=>exact bV! (show False from fd)⟩;refine _Z run (λfl s8 q8=>?_) λ_ _ z=>z.elim;cases fl with
   | ret u=>
    obtain⟨v,O8,H8,I8,rv,q8⟩:=q8;have J8:=I8.of_mk J1.ok;obtain⟨m,hn,_⟩:=J8.loc;refine wpAny_nameGoes (env:=X.env) dO hn (by rw[J1.ok.kind];rfl) λh9 m9 nS nT=>?_;exact⟨v,_,H8,J8.locals nS nT,rv,q8⟩ | next=>obtain⟨_,_,_,z⟩:=q8;exact z.elim | brk=>obtain⟨_,_,_,z⟩:=q8;exact z.elim | cont=>obtain⟨_,_,_,z⟩:=q8;exact z.elim
 have run:=hb (ir!++ae) Eb E1 iu [] s O H {nx:=iE!,rt:=D.rt} I.at_ ⟨Y,ρ,cv,r,en,?_⟩
 ·refine _Z run (λfl s1 q1=>?_) λ_ _ z=>z;cases fl with
  | ret u=>
   obtain⟨v,O8,H8,I8,rv,q8⟩:=q1;exact⟨v,O8,H8,I8.of_at,rv,q8⟩ | next=>obtain⟨_,_,_,z⟩:=q1;exact z.elim | brk=>obtain⟨_,_,_,z⟩:=q1;exact z.elim | cont=>obtain⟨_,_,_,z⟩:=q1;exact z.elim
 ·unfold zpp at h;cases e:fb ρ cv with
  | no=>rw[e]at h;exact h.elim | ok fl s1=>
   rw[e]at h;cases fl with
   | rt d=>
    intro fv H2 Y2 ag fd;cases fv with
    | rt v=>exact h (.rt v) H2 Y2 ag fd | _=>exact bV! (show False from fd)
   | _=>exact h.elim
  | ex c s1=>
   rw[e]at h;intro H' Y' C stp gB;simp only at h;split at h
   ·rename_i cU;cases e2:fh (iK! (gW! nW! a!) j (.exc c)) s1 with
    | no=>rw[e2]at h;exact h.elim | ex _ _=>rw[e2]at h;exact h.elim | ok fl s2=>
     rw[e2]at h;cases fl with
     | rt d=>exact⟨c,Y',s1,C,d,s2,rfl,cU,gB,stp,e2,h⟩ | _=>exact h.elim
   ·exact h.elim
end
end Dd
namespace PySem
open PySem.Sem (wp)
open PySem.W
structure ExcCls(K:Frag)(C:Addr):j! where
 ga:findIn K aT! "__getattribute__"=b! (hH! mK!)
 gh:findIn K aT! "__getattr__"=b! a!
 cl:findIn K aT! oU!=b! (b! om!)
 ob:mroIn K C sv!=b! c!
 be:mroIn K C (aF! "BaseException")=b! c!
 ty:∃d cd sl,mJ! C=b! ⟨aF! "type",d,.cls cd,sl⟩
section
variable {prog:Program}{w:World}{A:Around}{E:bP!}{K:Frag}{h:Heap}{g:rJ!}{d:Drawn}{t:Nat}{os:OsState}{a C:Addr}{o:Obj}
theorem zqa{M:Model}(hx:cx! a)(hc:fV!=aT!):Looks M h (typeOf ad!) aT!:=by
 intro A' Q' E' s' k q;unfold typeOf;refine _a (wpAny_loadPart (k _ _ hx) ?_);rw[hc];exact _m q
theorem z9y{R:Result->eh!}(X:hM!)(Fx:o8! K C)(hx:cx! a)(hc:fV!=aT!)(hq:R (lP! aT!) (eD! h g d t)): kk! hT! A (.call (.builtin "getset_descriptor.__get__") (dy! [om!,ad!,aT!])) R (eD! h g d t):=by
 have lP:(eD! h g d t:nF!).TypeIs om! "getset_descriptor":=_b2;have L1:=looks_mroIn (M:=hT!) X Fx.ob;rw[<- F.owner_object_class]at L1;refine codeAny_call_builtin F.slot_gs_get.plain F.entry_gs_get (F.slot_gs_get.check _ _ _ _ _ _ _ _ lP (F.args_gs_get _ _ _) ?_);repeat (any_goals (first | assumption | (with_reducible refine _aL hx ?_;rw[hc]) | (with_reducible refine L1.at ?_) | wp_step))
 refine⟨Code.quiet_builtin _ (by decide +kernel),codeAny_builtin F.entry_object_class ?_⟩;repeat (any_goals (first | assumption | (with_reducible refine _aL hx ?_;rw[hc]) | wp_step))
theorem z5q{tk:Tok}{Q:Fin->eh!}(X:hM!)(Fx:o8! K C)(hx:cx! a)(hc:fV!=aT!)(hq:Q (.done (.ret aT!)) (eD! h g d t)): ct! w A (Builtin.«object.__getattribute__» (dy! [ad!,.str oU! tk])) Q E (eD! h g d t):=by
 have lP:(eD! h g d t:nF!).TypeIs om! "getset_descriptor":=_b2;have L4:=looks_findIn (M:=hT!) X Fx.cl;have f5:=_b2;have f6:=F.slot_gs_get.lookup;have f7:=F.slot_gs_set.lookup;repeat (any_goals (first | assumption | (with_reducible refine _aL hx ?_;rw[hc]) | (with_reducible refine L4.at ?_) | wp_step))
 refine z9y X Fx hx hc ?_;repeat (any_goals (first | assumption | wp_step))
theorem zbP{M:Model}{dD:Value}{Q:Unit->eh!}(X:hM!)(Fx:o8! K C)(hx:cx! a)(hc:fV!=aT!)(hq:Q () (eD! h g d t)):wpAny M A (checkBuiltinCall mK! (dy! [ad!,dD])) Q E (eD! h g d t):=by
 have hk:builtinKind mK!=b! .slot:=by decide +kernel
 have dP:splitId mK!=b! ("BaseException","__getattribute__"):=by decide +kernel
 have L1:=looks_mroIn (M:=M) X Fx.be;have ha:=F.args_bexc_ga ad! dD;simp only[checkBuiltinCall,hk,dP];refine _a ?_
 ·unfold isInstance;repeat (first | (with_reducible refine _aL hx ?_;rw[hc]) | (with_reducible refine L1.at ?_) | wp_step)
  exact hq
theorem z7j{tk:Tok}{R:Result->eh!}(X:hM!)(Fx:o8! K C)(hx:cx! a)(hc:fV!=aT!)(hq:R (lP! aT!) (eD! h g d t)): kk! hT! A (.call (.builtin mK!) (dy! [ad!,.str oU! tk])) R (eD! h g d t):= codeAny_call_builtin F.attrBase_ValueError.ga.plain F.entry_bexc_ga (zbP X Fx hx hc (z5q X Fx hx hc hq))
theorem zaV{tk:Tok}{fill dQ:Bool}{Q:bP!}(X:hM!)(Fx:o8! K C)(hx:cx! a)(hc:fV!=aT!)(hq:Q aT! (eD! h g d t)): ct! w A (getAttrBy ad! (.str oU! tk) fill dQ) Q E (eD! h g d t):=by
 have f3:=F.attrBase_ValueError.ga.bind ad!;have pV:(dQ&&onTheHeap (Value.builtin mK!))=t!:=by cases dQ<;>rfl
 have gC:(Value.builtin mK!==Value.builtin "object.__getattribute__")=t!:=by decide +kernel
 have iA:(onTheHeap (k2! C)&&Value.builtin mK!==Value.builtin "object.__getattribute__")=t!:=by rw[gC];rfl
 have L1:=looks_findIn (M:=hT!) X Fx.ga;have L2:=looks_findIn (M:=hT!) X Fx.gh;repeat (any_goals (first | assumption | (with_reducible refine _aL hx ?_;rw[hc]) | (with_reducible refine L1.at ?_) | (with_reducible refine L2.at ?_) | wp_step))
 refine z7j X Fx hx hc ?_;repeat (any_goals (first | assumption | wp_step))
theorem z7x{Q:aN!->eh!}(X:hM!)(Fx:o8! K C)(hx:cx! a)(hc:fV!=aT!)(hq:Q (a3! C) (eD! h g d (t+1))):ct! w A (getAttr? ad! oU!) Q E (eD! h g d t):=by
 unfold getAttr? getAttrBy?;repeat (any_goals (first | assumption | with_reducible apply zaV X Fx hx hc | (with_reducible refine _aL hx ?_;rw[hc]) | wp_step))
end
theorem zj7{K:Frag}{a C:Addr}(Fx:o8! K C):KitX K ad! aT! (λh=>∃o,cx! a/\fV!=aT!) where
 ty:=λ_ _ _ ⟨_,hx,hc⟩=>zqa hx hc;it:=λ_ _ X _=>by
  obtain⟨dd,cd,sl,ho⟩:=Fx.ty;intro A' Q' E' s' k q;unfold isType loadHead;exact _a (wpAny_loadPart (k _ _ (X _ _ ho)) (_m q))
 ne:=λh tp dd af n sl X fK=>by
  obtain⟨d2,cd,cH,ho⟩:=Fx.ty;cases e:(k2! C==k2! tp) with
  | false=>rfl | true=>
   have e:=eq_of_beq e;cases e;have:=X _ _ ho;rw[fK]at this;simp at this
 ca:=λ{prog w A E Q s} X p hq=>by
  obtain⟨h,g,d,t,os⟩:=s;obtain⟨o,hx,hc⟩:=p;exact z7x X Fx hx hc hq
end PySem
namespace L2
section
variable {X:Cx}{ae:c4!}{O:St}{H:Hp}{s:Shared}{A:Around}{E:bP!}{Q:bP!}{b:Bool}
theorem zfg(I:K!) (rx:wA x u) (ty:zc3 X.K H x t) (ht:H tp=b! (p! cs)) (e:∀af,hr! cs->W.kitAny X.K t af=b! b) (h:∀tk,Q kN! {s with toks:=tk}): fY! aR! X.w A (pJ! gq! [u,q! tp]) Q E s:=by
 obtain⟨_,af,vi,o,g1,g2,_,n,g3⟩:=(gD! tp ht);have e:=e af vi;obtain⟨oc,od,oD,os⟩:=o;cases g2;cases g3;cases ty with
 | non=>cases (rx);exact _br W.kitx_none i1! la! g1 e (λz=>nomatch z) h | bl y=>cases (rx);exact _br W.kitx_bool i1! la! g1 e (λz=>nomatch z) h | int i=>obtain⟨t,q⟩:=(rx);cases q;exact _br W.kitx_int i1! la! g1 e (λz=>nomatch z) h | str y=>obtain⟨t,q⟩:=(rx);cases q;exact _br W.kitx_str i1! la! g1 e (λz=>nomatch z) h | flt y=>obtain⟨t,q⟩:=(rx);cases q;exact _br W.kitx_float i1! la! g1 e (λz=>nomatch z) h | @lst a xs ea=>
  cases (rx);obtain⟨_,_,n,_,h1⟩:=(gD! a ea);exact _br W.kitx_list i1! (b1! h1) g1 e (λz=>nomatch z) h | @frz a ob xs ea=>
  cases (rx);obtain⟨_,_,_,n,_,h1⟩:=(gD! a ea);exact _br W.kitx_list i1! (b1! h1) g1 e (λz=>nomatch z) h | @tup a xs ea=>
  cases (rx);obtain⟨_,_,_,p⟩:=(gD! a ea);obtain⟨o,h1,h2,_⟩:=p;exact _br W.kitx_tuple i1! (cj! h1 h2) g1 e (λz=>nomatch z) h | @dK a ah ea=>
  cases (rx);obtain⟨_,_,vs,_,p⟩:=(gD! a ea);obtain⟨o,es,ep,h1,h2,_⟩:=p;exact _br W.kitx_dict i1! (cj! h1 h2.1) g1 e (λz=>nomatch z) h | @dT a ah ea=>
  cases (rx);obtain⟨_,_,xs,_,o,es,ep,h1,h2,_⟩:=(gD! a ea);exact _br W.kitx_dict i1! (cj! h1 h2.1) g1 e (λz=>nomatch z) h | @ins a C dx fs ea cl ha hn gc hm=>
  cases (rx);obtain⟨mA,Oo,_⟩:=zgN er! ea;obtain⟨od,J,_⟩:=Oo.look;exact _br (W.kitx_own (cl.get _) cl.hd ha hn gc hm) i1! J g1 e (λz=>nomatch z) h
end
theorem zbu: lJ! X gq! (∃x t tp T U b,xs=[x,q! tp]/\H tp=b! (p! [.ty T,.ty U])/\zc3 X.K H x t/\W.kitAny X.K t [j4!,aF! U]=b! b/\Q ho! H):=by
 intro ae s O H xs us Q I r h;obtain⟨x,t,tp,T,U,b,rfl,fK,ht,hk,q⟩:=h;obtain⟨u,v,rfl,ru,rv⟩:=vals2 r;cases rv;refine zfg I ru ht fK (λaf vi=>?_) λtk=>bj! ho! H ia! q;obtain⟨u1,u2,rfl,r1,r2⟩:=vals2 vi;cases r1;cases r2;exact hk
end L2
namespace Dd
open L2
section
variable {X:Cx}{E:XK}{e a b c tg:Expr}{es:aC!}{pos:Pos}{CX:CXT}
theorem zm7{K:W.Frag} (h:t∈["NoneType",fs!,ee!,fU!,dd!,d0!,np!])(hT:T∈[ee!,fs!,fU!,dd!,d0!])(hU:U∈[ee!,fs!,fU!,dd!,d0!]):W.kitAny K (aF! t) [j4!,aF! U]=b! (isT T t||isT U t):=by
 simp only[W.kitAny,zd5 h T hT,zd5 h U hU];cases isT T t<;>cases isT U t<;>rfl
noncomputable def zo0(T U:String):D->bn!:=λd s=>match tyD d with | some t=>aM! (isT T t||isT U t) | none=>.no
noncomputable def znX(T U:String)(f:FE):FE:=eu! (dV! (zo0 T U d s1))
theorem zs5{p p1 p2 pt:Pos}{k:Nat} (hT:T∈[ee!,fs!,fU!,dd!,d0!])(hU:U∈[ee!,fs!,fU!,dd!,d0!])(hv:kz! tn j4!)(nU:kz! un (aF! U))(hg:ih! gq!)(hm:dx! gq!)(nV:ih! tn)(lQ:dx! tn)(cO:ih! un)(cr:dx! un)(he:e0! f) (hn:jK! (lB! tn))(hd:b8! (tn==cz!))(fm:jK! (lB! un))(eT:b8! (un==cz!)) (hs:y! (aq! [e,hv! [.Name tn p1,fi! un] k pt]=dF!::aq! [hv! [.Name tn p1,fi! un] k pt]))(au:dU! [hv! [.Name tn p1,fi! un] k pt] (·.1)): W! (c9! gq! p [e,hv! [.Name tn p1,fi! un] k pt]) (znX T U f):= yk (z2F zbu hg hm (by decide +kernel) (wD he (wD (zkI (wD (z9k nV lQ hv (show wA (.ty T) j4! from rfl) hn hd) (wD (z9k cO cr nU (show wA (.ty U) (aF! U) from rfl) fm eT) z0v (zu ..)) (zu ..))) z0v (zdD ..)) hs) (by decide) (by decide) hs au) λO H Q ⟨Y,ρ,s,r,en,h⟩=>by
  refine yI (k:=km! (zo0 T U d s1)) r en h _ λv H1 Y1 s1 d r1 av dn stp h1=>?_;unfold zo0 at h1;split at h1
  ·rename_i t et;refine⟨(show 2<=aW! from by decide +kernel),λtp fK=>?_⟩;have bn:=vj.lay (o:=p! [.ty T,.ty U]) r1 fK (by intro _ z;cases z);obtain⟨q1,q2⟩:=zl7 bn.rep (rq! bn) et;exact⟨v,aF! t,tp,T,U,isT T t||isT U t,rfl,yw,q1,zm7 q2 hT hU,h1 _ _ _ bn wz⟩
  ·exact h1.elim
end
end Dd
namespace L2
open MeetsSeq MeetsSeq2 SeqAt
def zq8(k:Bool):eH! dG!
 | .bool b=>b==k | _=>false
theorem z9A:∀{bs:List Bool}{af:List Value},hr! su!->af=bs.map Value.bool
 | [],_,.nil=>rfl | b::bs,_,.cons r rs=>by
  cases r;rw[z9A rs];rfl
theorem zlk:∀(bs:List Bool)(k:Bool)(m:Nat)(hm:m<bs.length),m<rR!->(bs[m]==k)=t!
 | [],k,m,hm,_=>cN! hm (by simp) | b::bs,k,m,hm,h=>by
  rw[List.idxOf_cons]at h;cases e:b==k with
  | true=>rw[e]at h;simp at h | false=>
   rw[e]at h;cases m with
   | zero=>simpa using e | succ m=>simpa using zlk bs k m (by simpa using hm) (by simpa using h)
section
variable {X:Cx}
def zrv:V->aU!->Hp->ej!:=λx vs H Q=>∃(p:Addr)(bs:List Bool)(k:Bool),x=b9!/\vs=[.bl k]/\Rd H p (ab! su!)/\Q (d! (bs.count k:Nat)) H
theorem zd4:MtR X "list.count" zrv:=by
 intro ae s O H x vs v us Q I rx rv h;obtain⟨p,bs,k,rfl,rfl,hp,q⟩:=h;cases rx;obtain⟨u,rfl,ru⟩:=vals1 rv;cases ru;obtain⟨_,af,n,r,e1⟩:=hp.ok er!;cases z9A r;refine _bh PySem.F.slot_list_count (b1! e1) PySem.F.entry_list_count (PySem.F.args_list_count_2 _ _) (list_countAt p _ n _ _ (.bool k) (zq8 k)) ⟨e1,cO! ?_,?_⟩
 ·obtain⟨b,_,rfl⟩:=_t.mp (_dk.mp hy);exact EqAt.bool_bool b k
 ·have e:(List.map Value.bool bs).countP (zq8 k)=bs.count k:=by rw[List.countP_map];rfl
  refine⟨d! (bs.count k),H,lZ! (gr! e),as! ft! ?_,q⟩;rw[<- e]
def zrN:V->aU!->Hp->ej!:=λx vs H Q=>∃(p:Addr)(bs:List Bool)(k:Bool),x=b9!/\vs=[.bl k]/\Rd H p (ab! su!)/\k∈bs/\qg!<2 ^ 62/\Q (d! (rR!:Nat)) H
theorem zcD:MtR X "list.index" zrN:=by
 intro ae s O H x vs v us Q I rx rv h;obtain⟨p,bs,k,rfl,rfl,hp,hk,hl,q⟩:=h;cases rx;obtain⟨u,rfl,ru⟩:=vals1 rv;cases ru;obtain⟨_,af,n,r,e1⟩:=hp.ok er!;cases z9A r;have hj:rR!<qg!:=List.idxOf_lt_length_iff.mpr hk;refine _bh PySem.F.slot_list_index (b1! e1) PySem.F.entry_list_index (PySem.F.args_list_index_2 _ _) (list_indexAt p _ n _ _ (.bool k) (zq8 k) rR! (by simpa using hj) (by lia) ?_ ?_) ⟨e1,cO! ?_,⟨d! rR!,H,lZ! (gr! e),ch! ft!,q⟩⟩;·simp[zq8,(_cF hj)]
 ·intro m hm bG;simpa[zq8] using (zlk bs k m (by simpa using hm) bG)
 ·obtain⟨b,_,rfl⟩:=_t.mp (_dk.mp hy);exact EqAt.bool_bool b k
end
end L2
namespace Dd
open L2
section
variable {X:Cx}{E:XK}{o e:Expr}{pos:Pos}
noncomputable def zpB(fo fv:FE):FE:=bW! (fo ρ s) (λo s1=>match o with
 | .lst ds=>z! (fv ρ s1) (λd s2=>match n1! ds,d with
  | some ns,.bl k=>b2! (d! (ns.count k:Nat)) | _,_=>.no)
 | _=>.no)
theorem zis{ap:Pos} (ho:W! o fo)(hv:e0! fv)(am:y! (lw! o "count" gg!=gg!)) (aH:c6! (hd! (hC! pos [e]) (! x.1)&&hd! (no! pos []) (iq! x.1) && bi! (r! [e]+r! ([]:gz!)+(nd! ([]:gz!) 0 1)<30))) (ai:c6! (r8! nN!))(hs:y! (aq! [e]=dF!::aq! []))(aw:dU! [] (·.1)): W! (e6! (ml! o "count") [e] [] pos) (zpB fo fv):= yk (znw _bR PySem.F.slot_list_count PySem.F.type_list_count zd4 ho (wD hv z0v hs) am aH ai hs aw) λO H Q ⟨Y,ρ,s,r,en,h⟩=>by
  refine⟨Y,ρ,s,r,en,(okR.bind (Dn:=j2!) h).imp λov H1 ⟨Y1,s1,od,stp,dn,h1⟩=>?_⟩;cases od with
  | lst ds=>
   refine as! (by
    obtain⟨a,ob,vs,rfl,e1,_⟩:=dn;exact w! ⟨rfl,vs,w! (d8! ob e1)⟩) ⟨Y1,ρ,s1,ds!,h4!,(okR.bind (Dn:=j2!) h1).imp λv H2 ⟨Y2,s2,d,ag,ax,h2⟩=>?_⟩;split at h2
   ·rename_i ns k ei;cases kO ax;obtain⟨a,ob,vs,rfl,e1,e2⟩:=lD!;rw[z54 ei]at e2;cases z4W e2;exact⟨a,ns,k,rfl,rfl,d8! ob e1,h2.here i6! yB⟩
   ·exact h2.elim | _=>exact h1.elim
noncomputable def zpr(fo fv:FE):FE:=bW! (fo ρ s) (λo s1=>match o with
 | .lst ds=>z! (fv ρ s1) (λd s2=>match n1! ds,d with
  | some ns,.bl k=>aa! (k∈ns/\e7!<2 ^ 62) (b2! (d! (pG!:Nat))) | _,_=>.no)
 | _=>.no)
theorem zjK{ap:Pos} (ho:W! o fo)(hv:e0! fv)(am:y! (lw! o "index" gg!=gg!)) (aH:c6! (hd! (hC! pos [e]) (! x.1)&&hd! (no! pos []) (iq! x.1) && bi! (r! [e]+r! ([]:gz!)+(nd! ([]:gz!) 0 1)<30))) (ai:c6! (r8! nN!))(hs:y! (aq! [e]=dF!::aq! []))(aw:dU! [] (·.1)): W! (e6! (ml! o "index") [e] [] pos) (zpr fo fv):= yk (znw _bR PySem.F.slot_list_index PySem.F.type_list_index zcD ho (wD hv z0v hs) am aH ai hs aw) λO H Q ⟨Y,ρ,s,r,en,h⟩=>by
  refine⟨Y,ρ,s,r,en,(okR.bind (Dn:=j2!) h).imp λov H1 ⟨Y1,s1,od,stp,dn,h1⟩=>?_⟩;cases od with
  | lst ds=>
   refine as! (by
    obtain⟨a,ob,vs,rfl,e1,_⟩:=dn;exact w! ⟨rfl,vs,w! (d8! ob e1)⟩) ⟨Y1,ρ,s1,ds!,h4!,(okR.bind (Dn:=j2!) h1).imp λv H2 ⟨Y2,s2,d,ag,ax,h2⟩=>?_⟩;split at h2
   ·rename_i ns k ei;split at h2
    ·rename_i hk;cases kO ax;obtain⟨a,ob,vs,rfl,e1,e2⟩:=lD!;rw[z54 ei]at e2;cases z4W e2;exact⟨a,ns,k,rfl,rfl,d8! ob e1,hk.1,hk.2,h2.here i6! yB⟩
    ·exact h2.elim
   ·exact h2.elim | _=>exact h1.elim
end
end Dd
namespace L2
structure jv(k:Nat)(A:Around):j! where
 dp:p3!+3*k+5<recursionLimit
 un:o0!+16*k+200<m1!
 gd:A.guards=b! []
theorem z1L.h{k:Nat}{A:Around}(r:hp! A):jv k A:=aQ! r.dp r.un r.gd
theorem jv.mono{j k:Nat}{A:Around}(r:jv k A)(h:j<=k):jv j A:=⟨by have:=r.dp;omega,by have:=r.un;omega,r.gd⟩
theorem jv.deeper{k:Nat}{A:Around}(r:jv (k+1) A)(env:Env):jv k (A.deeper env):= ⟨by have:=r.dp;show p3!+1+3*k+5<_;omega,by have:=r.un;show o0!+3+16*k+200<_;omega,r.gd⟩
theorem jv.depth{k:Nat}{A:Around}(r:jv k A):p3!<recursionLimit:=by have:=r.dp;omega
theorem jv.units{k:Nat}{A:Around}(r:jv k A):o0!+64<m1!:=by have:=r.un;omega
structure zhl(P:Program)(w:World)(K:W.Frag)(mg:Str->aN!)(base:Heap)(CX:CXT)(k:Nat)(f:Addr)(fd:FuncData)(ps:al!)(sp:Sp):j! where
 len:∀vs H Q E,sp vs H Q E->mg!
 run:∀(A:Around)(outer:List Env)(s:Shared)(H:Hp)(args:Args)(us:List Value)(vs:List V)(Q:VK)(E:XK),jv k A->zqA P w K mg P! A an! s H->p4! s fd jA! lH!->j1! vs->sp vs H Q E-> kk! (model P w) A (.call (q! f) jA!) (CR CX an! P w H s Q E) s
theorem zo6{CX:CXT} {P:Program} {w:World} {K:W.Frag} {mg:Str->aN!} {base:Heap} {k:Nat} {f:Addr} {name qual:Str} {params:Arguments} {body:ng!} {scope:Scope} {dV kV aE pm aj ct oc:Value} {an od:oz!} {cF:Array aN!} {N ps:al!} {sp:Sp} (lk:mJ! f=b! ⟨oc,od,.func (W.fnOf iu! ao! params dI! bt! dV kV aE pm an aj ct),cF⟩) (bA:W.codeIn K aj ao!=c!) (S:zr N ps bt!) (len:∀vs H Q E,sp vs H Q E->mg!) (bf:∀(A:Around) (outer:List Env) (s:Shared) (H:Hp) (vs:List V) (Q:VK) (E:XK),jv k (jV! ao! bt! f aj)->sp vs H Q E-> ∃t,PSs (z4E CX P w K mg P! N ao! bt! f aj A an! s H E) dI! t/\t {nx:=λ_ H'=>Q at! H',rt:=Q} (oR! N) H): zhl P w K mg P! CX (k+1) f (W.fnOf iu! ao! params dI! bt! dV kV aE pm an aj ct) ps sp:=by
 refine⟨len,λA outer s H args us vs Q E hr e0 hb r cG=>?_⟩;have hl:=len _ _ _ _ cG;have KX:K.In G!:=e0.mod.kin.keeps (gr! (e0.bs b o e).1);have nW:s.heap.NoLimit:=e0.mod.nolimit.keeps (gr! (e0.bs b o e).1);have fL:∀y∈lH!,jB! y.1=b! oW!\/(jB! y.1=dk!/\h7! (nP! (ma! dD! []) y.1)):=λ⟨n,v⟩ hy=>by
  rcases S.par n (_ad hy).1 with q | q;·exact w! q
  ·exact d8! q (_dc _ _ _ (w! q))
 refine codeAny_call_function hr.depth (KX _ _ lk) rfl S.co S.gen rfl (W.codeRec_of KX bA) (hb _ _ _ _ ?_);refine wpAny_newFunctionEnv_cells S.kind fL λenv he s1 x=>?_;subst he;refine⟨nW.keeps x.toInCall.keep,codeAny_func ?_⟩;obtain⟨t,ht,hq⟩:=bf A an! s H vs Q E (hr.deeper _) cG;have I:Inv (z4E CX P w K mg P! N ao! bt! f aj A an! s H E) [] (oR! N) H s1:=zb1 S e0 hl r x;refine _Z (ht [] s1 (oR! N) H _ I hq) (λfl s' hs=>?_) λe s' hs=>hs;have fin:∀{O':St} {H':Hp} {v:V} {u:Value},Inv (z4E CX P w K mg P! N ao! bt! f aj A an! s H E) [] O' H' s'->wA v u->Q v H'->CE an! P w H s Q u s':= λ{O' H' v u} J rv q=>⟨v,H',J.os,J.bare,J.base,J.hok,rv,q⟩;cases fl with
 | ret u=>
  obtain⟨v,O',H',J,rv,q⟩:=hs;exact fin J rv q | next=>
  obtain⟨O',H',J,q⟩:=hs;exact fin (v:=V.non) (u:=Value.none) J rfl q | brk=>
  obtain⟨_,_,_,q⟩:=hs;exact lY! q | cont=>
  obtain⟨_,_,_,q⟩:=hs;exact lY! q
section
variable {X:Cx}{CX:CXT}{k:Nat}{f:Addr}{fd:FuncData}{ps:al!}{sp:Sp}{ds:cR!}{bN:aU!}{E:XK}{x:Str}{p pos:Pos}{e:Expr}{es:aC!}{t:TA}
theorem zmf{ae:c4!}{O:St}{H:Hp}{s:Shared}{Q:VK}{us:cR!}{vs:aU!}(F:zhl aR! X.w X.K e4! eP! CX k f fd ps sp)(hr:jv k X.A)(hb:j6! X.K ps ds)(hd:xn bN ds)(hx:kF! X E) (I:K!)(r:j1! vs)(h:sp (vs++bN) H Q E):bI! (call (q! f) us) (EP X ae O Q) s:=by
 have r2:xn (vs++bN) (us++ds):=r.append hd;have hl:r! (us++ds)=a5!:=by rw[<- r2.length];exact F.len _ _ _ _ h
 refine wpAny_call (_dt (F.run X.A lV! s H (dy! us) (us++ds) (vs++bN) Q E hr I.env0 (hb s us i1! hl) r2 h) λr s' hq=>?_);cases r with
 | error e=>exact hx ae O H s e s' I hq | ok fl=> cases fl with
  | ret u=>exact I.after hq | next=>exact q2! | brk=>exact q2! | cont=>exact q2!
theorem ziD(F:zhl aR! X.w X.K e4! eP! CX k f fd ps sp) (hr:jv k X.A) (hg:eL!) (hm:X.mg x=a3! f) (hk:oD! X.K f=c!) (hb:j6! X.K ps ds) (hd:xn bN ds) (hx:kF! X E) (ha:PA X (e::es) t) (aG:b8! (x==cz!)) (he:y! (aq! (e::es)=dF!::if!)) (au:dU! es (·.1)): U! (c9! x p (e::es)) (zma sp bN E t):=by
 intro ae s O H Q I h;refine _aq (z3u I hg hm ?_ aG);refine _du (h₀:=X.base) I.ok.mod.kin hk (thn (ha pos ae s O H _ I h) λus s1 ⟨vs,H1,I1,r,q⟩=>as! I1.kIn ?_) he au;exact zmf F hr hb hd hx I1 r q
end
section
variable {P:Program}{w:World}{K:W.Frag}{mg:Str->aN!}{base:Heap}
theorem Fun.okH{x qual:Str}{st:Stmt}{f:Addr}{fd:FuncData}{N ps:al!}{k:Nat}{sp:Sp}(F:Fun K x ao! st f fd)(S:S! N ps st)(len:∀vs H Q E,sp vs H Q E->mg!) (bf:∀(aj:Value)(A:Around)(outer:List Env)(s:Shared)(H:Hp)(vs:List V)(Q:VK)(E:XK),jv k (jV! ao! cV! f aj)->sp vs H Q E-> ∃t,PSs (z4E CX0 P w K mg P! N ao! cV! f aj A an! s H E).nox hR! t/\t {nx:=λ_ H'=>Q at! H',rt:=Q} (oR! N) H):zhl P w K mg P! CX0 (k+1) f fd ps sp:=by
 obtain⟨oc,od,kV,aE,pm,an,aj,ct,cF,rfl,lk,bA⟩:=F.ex;refine zo6 lk bA S len λA outer s H vs Q E hr cG=>?_;obtain⟨t,h,q⟩:=bf aj A an! s H vs Q E hr cG;exact aQ! t h.nox q
end
end L2
namespace Dd
open L2
def zqB(P:Program)(w:World)(K:W.Frag)(mg:Str->aN!)(base:Heap)(CX:CXT)(x:Str)(n:Nat)(M:Mir):j!:= ∃f fd ps,zhl P w K mg P! CX n f fd ps (ziQ ⟨mg,K⟩ M)/\j6! K ps []/\oD! K f=c!/\mg x=a3! f
section
variable {X:Cx}{E:XK}{e:Expr}{es:aC!}{pos:Pos}{CX:CXT}
theorem znt{x:Str} {p:Pos} {n:Nat} {M:Mir} {f:FA} (F:zqB aR! X.w X.K e4! eP! CX x n M) (hr:jv n X.A) (hx:kF! X E) (hg:eL!) (ha:RA X E (e::es) f) (aG:b8! (x==cz!)) (he:y! (aq! (e::es)=dF!::if!)) (au:dU! es (·.1)):W! (c9! x p (e::es)) (zg M f):=by
 obtain⟨fa,fd,ps,F,hb,hk,hm⟩:=F;refine yk (ziD F hr hg hm hk hb cn! hx ha aG he au) λO H Q ⟨Y,ρ,s,r,en,h⟩=>?_;refine qo (k:=m7! (M xs s1)) r en h _ λvs H2 Y2 s2 ds r2 aY ax ag h3=>?_;rw[_aH];exact⟨Y2,s2,ds,r2,ax,h3⟩
end
section
variable {P:Program}{w:World}{K:W.Frag}{mg:Str->aN!}{base:Heap}
theorem zmJ{x qual:Str}{st:Stmt}{f:Addr}{fd:FuncData}{N ps:al!}{k n:Nat}{fs:FS}(F:Fun K x ao! st f fd)(hm:mg x=a3! f)(hb:j6! K ps [])(S:S! N ps st)(hn:a5!=n) (body:r3! (jv k (jV! ao! cV! f aj)) (RSs (z4E CX0 P w K mg P! N ao! cV! f aj A an! s H E).nox E0 hR! fs)):zqB P w K mg P! CX0 x (k+1) (Mof N n fs):=by
 subst hn;refine⟨f,fd,ps,F.okH S (qk! ?_) (λaj A outer s H vs Q E hr h=>?_),hb,F.kp,hm⟩
 ·obtain⟨Y,s,ds,_,dn,h⟩:=h;unfold Mof at h;split at h;·rename_i e;rw[dn.length];exact e
  ·exact h.elim
 ·obtain⟨Y,cv,ds,r,dn,h⟩:=h;refine⟨_,body aj A an! s H E hr,Y,zx N ds,cv,r,z0Y dn,?_⟩;unfold Mof at h;split at h
  ·split at h
   ·rename_i d s' e;rw[e];intro fv H' Y' stp fd;cases fv with
    | rt v=>exact h v H' Y' stp fd | _=>exact bV! (show False from fd)
   ·rename_i ρ s' e;rw[e];intro fv H' Y' stp fd;cases fv with
    | nx v=>exact h at! H' Y' stp rfl | _=>exact bV! (show False from fd)
   ·exact h.elim
  ·exact h.elim
end
theorem z4b: lJ! X gq! (∃(a C:Addr)(y:V)(b:Bool),xs=[ad!,y]/\cb! (zkX C a)/\PySem.ExcCls X.K C/\(∀c,wA y c->mL! X.K aT! c=b! b)/\Q ho! H):=by
 intro ae s O H xs us Q I r h;obtain⟨a,C,y,b,rfl,ha,hc,hk,q⟩:=h;obtain⟨u,v,rfl,ru,rv⟩:=vals2 r;cases ru;obtain⟨⟨o,vs,h1,h2,_⟩,_⟩:=(gD! a ha);exact kR! (PySem.zj7 hc) (cj! h1 h2) (hk v rv) (λz=>nomatch z) (λtk=>bj! ho! H ia! q)
structure zdt(mg:Gm)(rs cs:al!):j! where
 cls:∀c∈rs,∀C,mg.m c=a3! C->PySem.ExcCls m5! C
 has:∀d∈cs,∃D,mg.m d=a3! D
 one:∀c∈rs,∀d∈cs,∀C D,mg.m c=a3! C->mg.m d=a3! D->mL! m5! aT! (q! D)=b! (c==d)
 val:∀c∈rs,∀C,mg.m c=a3! C->mL! m5! aT! (aF! im!)=b! c!
def zrK(rs:al!)(T:Str):D->bn!
 | .exc c,s=>aa! (c∈rs) (aM! (c==T)) | _,_=>.no
noncomputable def z9X(rs:al!)(T:Str)(f:FE):FE:=eu! (dV! (zrK rs T d s1))
def zrM(rs:al!):D->bn!
 | .exc c,s=>aa! (c∈rs) bN! | _,_=>.no
noncomputable def ztM(rs:al!)(f:FE):FE:=eu! (dV! (zrM rs d s1))
section
variable {X:Cx}{E:XK}{e:Expr}{pos:Pos}
theorem z0L{p p2:Pos} (FM:zdt B! rs cs)(hT:T∈cs)(hg:ih! gq!)(hm:dx! gq!)(cO:ih! T)(he:e0! f) (hd:b8! (T==cz!)) (hs:y! (aq! [e,fi! T]=dF!::aq! [fi! T]))(au:dU! [fi! T] (·.1)):W! (c9! gq! p [e,fi! T]) (z9X rs T f):=by
 obtain⟨D,hD⟩:=FM.has T hT;exact yk (z2F z4b hg hm (by decide +kernel) (wD he (wD (z6z cO hD (show wA (q! D) (q! D) from rfl) hd) z0v (zu ..)) hs) (by decide) (by decide) hs au) λO H Q ⟨Y,ρ,s,r,en,h⟩=>by
  refine yI (k:=km! (zrK rs T d s1)) r en h _ λv H1 Y1 s1 d r1 av dn stp h1=>?_;unfold zrK at h1;split at h1
  ·rename_i c;split at h1
   ·rename_i hc;obtain⟨a,C,rfl,hC,hH⟩:=dn;exact⟨a,C,q! D,c==T,rfl,hH,FM.cls c hc C hC,λz hz=>by cases hz;exact FM.one c hc T hT C D hC hD,okR.here (b:=V.bl (c==T)) h1 r1 wz⟩
   ·exact h1.elim
  ·exact h1.elim
theorem zr1{p p2:Pos} (FM:zdt B! rs cs)(hg:ih! gq!)(hm:dx! gq!)(cO:ih! im!)(cr:dx! im!)(he:e0! f) (hs:y! (aq! [e,fi! im!]=dF!::aq! [fi! im!]))(au:dU! [fi! im!] (·.1)):W! (c9! gq! p [e,fi! im!]) (ztM rs f):= yk (z2F z4b hg hm (by decide +kernel) (wD he (wD (z9k cO cr (by decide +kernel) (show wA (.ty im!) (aF! im!) from rfl)) z0v (zu ..)) hs) (by decide) (by decide) hs au) λO H Q ⟨Y,ρ,s,r,en,h⟩=>by
  refine yI (k:=km! (zrM rs d s1)) r en h _ λv H1 Y1 s1 d r1 av dn stp h1=>?_;unfold zrM at h1;split at h1
  ·rename_i c;split at h1
   ·rename_i hc;obtain⟨a,C,rfl,hC,hH⟩:=dn;exact⟨a,C,.ty im!,c!,rfl,hH,FM.cls c hc C hC,λz hz=>by cases hz;exact FM.val c hc C hC,okR.here (b:=V.bl c!) h1 r1 wz⟩
   ·exact h1.elim
  ·exact h1.elim
end
section
variable {X:Cx}{E:XK}{e a b:Expr}{es:aC!}{pos:Pos}{CX:CXT}
theorem zrP(hg:eL!)(hm:X.mg x=a3! g)(hd:b8! (x==cz!)):W! (ff! p) (eC (.fn x)):= yk (z6z hg hm (show wA (q! g) (q! g) from rfl) hd) λO H Q ⟨Y,ρ,s,r,en,h⟩=>g4! h (aA! g hm)
theorem zq5(F:Has aR! X.w X.K e4! eP! CX x n M)(hg:eL!)(hd:b8! (x==cz!)):W! (ff! p) (eC (.fn x)):=by
 obtain⟨f,_,_,_,_,_,hm⟩:=F;exact zrP hg hm hd
noncomputable def zhI(g:FE)(Ms:dv! Mir)(f:FA):FE:=bW! (g ρ s) (λd s1=>match d with
 | .fn y=>match pF! with
  | some M=>z! (f ρ s1) (λxs s2=>M xs s2) | none=>.no
 | _=>.no)
theorem znQ{Ms:dv! Mir} (F:∀y M,pF!=b! M->Has aR! X.w X.K e4! eP! CX y n M) (hr:z1L n X.A) (ip:kF! X E) (hg:W! (rl! b sp) g) (ha:RA X E (e::es) f) (he:y! (aq! (e::es)=dF!::if!)) (au:dU! es (·.1)):W! (e6! (rl! b sp) (e::es) [] pos) (zhI g Ms f):=by
 intro ae s O H Q I ⟨Y,ρ,st,r,en,h⟩;refine _a (thn (hg ae s O H (λv H1=>∃Y1 s1 d,vj B! H Y H1 Y1 s1/\Den B! H1 Y1 d v/\iL! B! H1 Y1 j2! (match d with
  | .fn y=>match pF! with
   | some M=>z! (f ρ s1) (λxs s2=>M xs s2) | none=>.no
  | _=>.no) Q) I ⟨Y,ρ,st,r,en,(okR.bind (Dn:=j2!) h).imp λv H1 q=>q⟩) λu s1 ⟨v,H1,I1,r1,Y1,nX,d,stp,dn,h1⟩=>?_);split at h1
 ·rename_i y;split at h1
  ·rename_i M hM;obtain⟨gg,rfl,cY⟩:=dn;cases r1;obtain⟨fa,fd,ps,Fk,hb,hk,hm⟩:=F y M hM;have e0:gg=fa:=by cases cY.symm.trans hm;rfl
   subst e0;exact _du (h₀:=X.base) I1.ok.mod.kin hk (thn (ha pos ae s1 O H1 (λvs H2=>ziQ B! M (vs++[]) H2 Q E) I1 (qo (k:=m7! (M xs s1)) stp.rep h4! h1 _ λvs H2 Y2 s2 ds r2 aY ax ag h3=>by
    rw[_aH];exact⟨Y2,s2,ds,r2,ax,h3⟩)) λus s2 ⟨vs,H2,I2,r2,q⟩=>as! I2.kIn (zeq Fk hr hb cn! ip I2 r2 q)) he au
  ·exact h1.elim
 ·exact h1.elim
end
end Dd
namespace PySem
open PySem.AutoSeq1 (wpAny_loadPart')
open MeetsSeq MeetsSeq2 SeqAt
theorem zaj(l:Addr) (items:cq!) (n:Nat) (dd:oz!) (sl:Array aN!) (x:Int) (u:Tok) (h2:2<=x) (hx:x<2 ^ 63) (dy:items.isEmpty=t!) (hc:¬ h! hx!*x > (2 ^ 63-1) / 8) (ht:Builtin.Tuple.tupleTooMany (h! hx!*x)=t!) (hs:((gW! n4! gU!).foldl (· ++ ·) #[]).size<=aW!): Meets (Builtin.«tuple.__mul__» (dy! [ei!,bs! x u])) (λA R s=>fx! l ({cls:=du!,dict:=dd,data:=.seq gU! n,slots:=sl})/\R (lP! fy!) {s with heap:=hW! ({cls:=du!,data:=.seq ((gW! n4! gU!).foldl (· ++ ·) #[])})}):= qY! (by
  obtain⟨hl,h⟩:=h;have e1:(x==1)=t!:=by simp;lia
  have e2:jx! x 0=t!:=by simp;lia
  wp_walk using _ar hl;rw[_q (by simp;lia)];wp_walk using _ar hl;rw[_q hc];wp_walk;exact aA! _ h)
theorem z8U(l:Addr)(items:cq!)(n:Nat)(dd:oz!)(sl:Array aN!)(u:Tok): Meets (Builtin.«tuple.__mul__» (dy! [ei!,bs! 1 u])) (λA R s=>fx! l ({cls:=du!,dict:=dd,data:=.seq gU! n,slots:=sl})/\R (lP! ei!) s):= qY! (by
  obtain⟨hl,h⟩:=h;wp_walk using _ar hl;exact aA! _ h)
theorem kU:fillsNumberSlot du! "mul"=mo!:= fillsNumberSlot_seq (id:="tuple.__mul__") (r:=hH! "tuple.__rmul__") _b8.lookup (by decide +kernel) F.slot_tuple_rmul.lookup (by decide +kernel)
theorem z45:seqRepeat? du!=dH! (hH! "tuple.__mul__"):=by
 unfold seqRepeat?;rw[seqSlot_of (T:=dd!) (name:="__mul__") (id:="tuple.__mul__") _b8.lookup (by decide +kernel),seqSlot_of (T:=dd!) (name:="__rmul__") (id:="tuple.__rmul__") F.slot_tuple_rmul.lookup (by decide +kernel)];rfl
theorem jE(a:Int)(t:Tok)(l:Addr)(items:cq!)(n:Nat)(dd:oz!)(sl:Array aN!): Meets (Builtin.«int.__rmul__» (dy! [bJ! a,ei!])) (λ_ R s=>fx! l ({cls:=du!,dict:=dd,data:=.seq gU! n,slots:=sl})/\R (lP! Value.notImplemented) s):= qY! (by obtain⟨hl,h⟩:=h;wp_walk;exact aA! _ h)
end PySem
namespace L2
section
variable {X:Cx}
def zsD:R2:=hw! (∃l k xs,x=ei!/\y=d! k/\H l=b! aD!/\1<=k/\a4! xs/\v!*dJ!<=aW!/\ ((k=1->Q ei! H)/\∀p,gl!->Q b9! (fo! (p! (hB! dJ! xs)))))
theorem znM:nm! zsD:=by
 intro ae s O H x y v u Q I rx ry h;obtain⟨l,k,xs,rfl,rfl,hH,h1,dy,hz,q1,q⟩:=h;cases rx;obtain⟨t,rfl⟩:=ry;obtain⟨z,af,r,o,e,c1,d1,n,w1⟩:=(gD! l hH);obtain⟨cls,dd,data,sl⟩:=o;subst c1 d1 w1;have hl:v!=jC!:=by have:=r.length;lia
 have hp:0<jC!:=by rw[<- hl];exact _bG.mpr dy
 have hk:dM! dJ!=k:=by lia
 have ao:jC!*dJ!<=aW!:=by rw[<- hl];exact hz
 have nY:dJ!<=aW!:=_Y (Nat.le_mul_of_pos_left _ hp) ao;have hS:aW!<=(2 ^ 63-1) / 8:=by decide
 have nZ:k<2 ^ 63:=by lia
 have hm:dM! iw!*k=(jC!*dJ!:Nat):=by rw[_s,Int.natCast_mul,hk]
 by_cases ho:k=1
 ·subst ho;exact _bC (T:=dd!) (U:=ee!) (by decide) (b1! e) (λs'=>_b6 s' 1 t) kU F.fills_int_mul _bp z45 _df.lookup (_bh _bp (_b6 s 1 t) _dg (_cT _ _) (jE 1 t l e2! n _ sl) ⟨e,rfl,b1! e,_bh _b8 (b1! e) F.entry_tuple_mul (F.args_tuple_mul_2 _ _) (z8U l e2! n _ sl t) ⟨e,bj! ei! H I (q1 rfl)⟩⟩)
 ·have fM:List.foldl (λx1 x2=>x1++x2) #[] (gW! dJ! e2!)=(gW! dJ! af).flatten.toArray:=by
   have:=foldl_rep af dJ! [];exact this
  refine _bC (T:=dd!) (U:=ee!) (by decide) (b1! e) (λs'=>_b6 s' k t) kU F.fills_int_mul _bp z45 _df.lookup (_bh _bp (_b6 s k t) _dg (_cT _ _) (jE k t l e2! n _ sl) ⟨e,rfl,b1! e,_bh _b8 (b1! e) F.entry_tuple_mul (F.args_tuple_mul_2 _ _) (zaj l e2! n _ sl k t (by lia) nZ (by cases af with | nil=>simp at hp | cons a b=>rfl) (by lia) (by exact _aN (by lia)) (by rw[fM,_s,len_rep,_cr];exact ao)) ⟨e,?_⟩⟩);rw[fM];exact⟨q! _,_,I.laid (o:=p! (hB! dJ! xs)) (t':=s.toks) (λb u q=>_g _ q) ah! ⟨(by rw[len_rep,_cr];exact hz),_,r.rep dJ!,zfp.new _ _⟩,rfl,q _ I.fresh⟩
end
end L2
namespace Dd
open L2
section
variable {X:Cx}{E:XK}
def zg8:D->D->bn!
 | .tup xs,.int k,s=>aa! (1<=k/\a4! xs/\v!*dJ!<=cap) (bf! (hB! dJ! xs)) | _,_,_=>.no
theorem zqc:∃r,nm! r/\cK! zg8:=by
 refine bG! znM ?_;intro H Y s d1 d2 v1 v2 Q r h1 h2 h;unfold zg8 at h;split at h
 ·rename_i xs k;cases yq h2;split at h
  ·rename_i hl;have iB:=h1;obtain⟨a,vs,rfl,e1,e2⟩:=h1;refine⟨a,k,vs,rfl,rfl,e1,hl.1,λz=>?_,by rw[e2.length];exact kM hl.2.2,λhk=>?_,z3V r h (e2.flat_rep _)⟩
   ·subst z;exact hl.2.1 (_aV.mp (by simpa using e2.length.symm))
   ·subst hk;rw[(show hB! (h! 1).toNat xs=xs from by simp)]at h;exact eB! iB
  ·exact h.elim
 ·exact h.elim
@[simp] theorem zm5(xs:C!)(k:Int)(s:Sto):zg8 aD! (d! k) s=aa! (1<=k/\a4! xs/\v!*dJ!<=cap) (bf! (hB! dJ! xs)):=V!
end
end Dd
namespace L2
section
variable {X:Cx}{pos:Pos}
theorem Inv.far{O:St} (I:K!):(am!==sysModules)=t!:=by
 obtain⟨o,es,ep,h,_⟩:=I.mod.glob.keeps I.bk;have e1:1<=lT!:=by decide
 exact beq_false_of_ne (_cq (_bO e1 (_r h)))
def zrD:TE:=λ_ H Q=>∀p,gl!->Q b9! (fo! (.dK []))
theorem zmI:U! (.Dict [] [] pos) zrD:=by
 refine λae s O H Q I hq=>wpAny_Dict_empty ⟨fy!,hE! am! (.dK []),I.laid (o:=.dK []) (t':=s.toks) (λb u e=>_g _ e) ah! ⟨gM!,I.far,[],?_,Heap.DictOf.new _⟩,rfl,hq _ (mc! _)⟩;constructor
end
end L2
namespace Dd
open L2
section
variable {X:Cx}{E:XK}{pos:Pos}
theorem zoj:W! (.Dict [] [] pos) (eC .dct):= yk zmI λO H Q ⟨Y,ρ,s,r,en,h⟩=>bo! (by exact h _ _ _ (vj.lay (o:=.dK []) r hp (by intro _ z;cases z)) (by exact aA! p yw))
end
structure XOk(K:W.Frag)(C:Addr):j! where
 exc:W.excIn K C bmV "ValueError.__new__"=c!
 cls:PySem.ExcCls K C
 val:mL! K aT! (aF! im!)=b! c!
theorem zb9{K:W.Frag} (h:z6F K C=c!):∃d cd sl,mJ! C=b! ⟨aF! "type",d,.cls cd,sl⟩:=by
 unfold z6F at h;split at h
 ·rename_i t d cd sl e;have:=i3! h;subst this;exact⟨_,_,_,e⟩
 ·cases h
theorem qW{K:W.Frag} (h:z8N K x=c!):∃C,f2! K x=b! (a3! C)/\XOk K C:=by
 unfold z8N at h;split at h
 ·rename_i C e;simp only[_Q]at h;obtain⟨h1,h2,h3,h4,h5,h6,h7,h8⟩:=h;exact⟨C,e,h1,⟨i3! h2,i3! h3,i3! h4,i3! h5,i3! h6,zb9 h7⟩,i3! h8⟩
 ·cases h
section
variable {K:W.Frag}{mg:Str->aN!}(G:∀(x:Str)(v:Value),f2! K x=b! bx!->mg x=bx!)
include G
theorem z8P(h:z8N K x=c!):znT K mg x:=by
 obtain⟨C,e,o⟩:=qW h;exact⟨C,G x _ e,o.exc⟩
theorem zg7(hr:∀x∈rs,z8N K x=c!)(hc:∀y∈cs,z8N K y=c!)(h:∀x∈rs,∀y∈cs,(z7W K x y).map (·.2)=b! (b! (x==y))):zdt ⟨mg,K⟩ rs cs:=by
 have un:∀x C D,f2! K x=b! (a3! D)->mg x=a3! C->C=D:=λx C D e m=>by
  have:=G x _ e;rw[m]at this;cases this;rfl
 refine⟨λc cU C m=>?_,hY! ?_,λc cU d hd C D mC mD=>?_,λc cU C m=>?_⟩
 ·obtain⟨D,e,o⟩:=qW (hr c cU);cases un c C D e m;exact o.cls
 ·obtain⟨D,e,o⟩:=qW (hc d hd);exact⟨D,G d _ e⟩
 ·obtain⟨C',e1,_⟩:=qW (hr c cU);obtain⟨D',e2,_⟩:=qW (hc d hd);cases un c C C' e1 mC;cases un d D D' e2 mD;have q:=h c cU d hd;unfold z7W at q;rw[e1,e2]at q;simpa using q
 ·obtain⟨D,e,o⟩:=qW (hr c cU);cases un c C D e m;exact o.val
theorem znz(hx:z8N K x=c!)(hy:z8N K y=c!)(h:(z7W K x y).map (·.1)=b! (b! c!)):zrz K mg x y:=by
 obtain⟨C,e1,o1⟩:=qW hx;obtain⟨D,e2,o2⟩:=qW hy;refine⟨C,D,G x _ e1,G y _ e2,o1.exc,o2.exc,λh₀ X=>?_⟩;unfold z7W at h;rw[e1,e2]at h;have hm:W.mroIn K C (q! D)=b! c!:=by simpa using h
 obtain⟨bm,N,nm,q,bs,hdct,sn,sub,ab,col,dd,k0,k1,k2,k3,k5,mN,hC,_⟩:=zhO X o1.exc;refine⟨bm,N,nm,q,bs,hdct,sn,sub,ab,col,dd,k0,k1,k2,k3,k5,hC,?_⟩;obtain⟨d',oa,i7,hl⟩:=o1.cls.ty;have h2:=X _ _ hl;rw[hC]at h2;unfold W.mroIn W.clsIn at hm;rw[hl]at hm;simp only[_L]at hm;split at hm;·cases hm
 ·simp only[_y,Obj.mk.injEq,Data.cls.injEq]at h2;obtain⟨_,_,h3,_⟩:=h2;rw[(show oa.mro=k2! C::bm from by rw[<- h3])]at hm;simpa using hm
end
theorem zax{K:W.Frag}(e:zdE q K=iP! q)(x:Str)(hx:x∈q.xs):z8N K x=c!:=z8u (_aK (λz=>z.2.2.2.2.2.1) e) x hx
theorem zqq{K:W.Frag}(e:zdE q K=iP! q)(x y:Str)(b:Bool)(hx:((x,y),b)∈q.ps):z7W K x y=b! (b! b,b! b):=z8u (_aK (λz=>z.2.2.2.2.2.2) e) ((x,y),b) hx
theorem zsE(r:jv k A):jv k (A.mark e):=aQ! r.dp r.un r.gd
def LeS(f g:FS):j!:=∀ ρ s a s',aK!=bR! a->g ρ s=bR! a
def LeM(M N:Mir):j!:=∀ds s d s',M ds s=bR! d->N ds s=bR! d
theorem LeS.rfl: LeS f f:=λ_ _ _ _ h=>h
theorem LeS.no(h:LeS f g):LeS f (z0s g):=qq! (by rw[zmO,h ρ s a s' e])
theorem LeS.calm: LeS f (z0s f):=LeS.rfl.no
theorem LeS.fNo: LeS fNo g:=λ_ _ _ _ h=>by cases h
theorem LeM.mof(h:LeS f g):LeM (Mof N n f) (kT N n g):=λds s d s' e=>by
 unfold Mof at e;unfold kT;split at e
 ·rename_i hl;rw[_h hl];split at e
  ·rename_i d' s1 e1;rw[h _ _ _ _ e1];exact e
  ·rename_i ρ s1 e1;rw[h _ _ _ _ e1];exact e
  ·cases e
 ·cases e
def LeE(f g:FE):j!:=∀ ρ s a s',aK!=bR! a->g ρ s=bR! a
theorem z29{r:R α} {b:β} (h:r.bind k=bR! b):∃a s1,r=T! a/\k a s1=bR! b:=by cases r with
 | ok a s=>exact⟨a,s,Eq.refl _,h⟩ | ex c s=>cases h | no=>cases h
theorem LeS.seq(h:LeS f f')(h2:LeS g g'):LeS (zA f g) (zA f' g'):=qq! (by
 obtain⟨fl,s1,e1,e2⟩:=z29 e;show z! (f' ρ s) _=_;rw[h _ _ _ _ e1];cases fl with
 | nx ρ'=>exact h2 _ _ _ _ e2 | _=>exact e2)
theorem LeS.drop(h:LeE f f'):LeS (wk f) (wk f'):=qq! (by
 obtain⟨d,s1,e1,e2⟩:=z29 e;show z! (f' ρ s) _=_;rw[h _ _ _ _ e1];exact e2)
theorem LeS.set(h:LeE f f'):LeS (yu i f) (yu i f'):=qq! (by
 obtain⟨d,s1,e1,e2⟩:=z29 e;show z! (f' ρ s) _=_;rw[h _ _ _ _ e1];exact e2)
theorem LeE.call(h:LeM M M'):LeE (zg M f) (zg M' f):=qq! (by
 obtain⟨d,s1,e1,e2⟩:=z29 e;show jS! _=_;rw[e1];exact h _ _ _ _ e2)
theorem LeS.if_(h:LeS f f')(h2:LeS g g'):LeS (fIf t f g) (fIf t f' g'):=qq! (by
 obtain⟨d,s1,e1,e2⟩:=z29 e;show z! (t ρ s) _=_;rw[e1];cases d with
 | true=>exact h _ _ _ _ e2 | false=>exact h2 _ _ _ _ e2)
theorem LeM.ok(h:LeM M N) (e:M ds s=bR! d):N ds s=bR! d:=h ds s d s' e
end Dd
namespace Dd
open L2
open PySem.W
def kev{α:cd!}(n:Nat)(lt:Nat->kM!):KasT α->bh! α
 | .ret a=>b! a | .ask i j k=>h1! (i<n/\j<n) (dT! n (k (lt i j)))
theorem zef{α:cd!}{n:Nat}{lt:Nat->kM!}{eA:Nat->Nat->(b5!->eh!)->eh!}{Q:α->eh!}{s:Shared}(hc:∀i j C,i<n->j<n->C (lt i j) s->eA i j C s): ∀(t:KasT α)(a:α),dT! n t=b! a->Q a s->t.kasWp eA Q s
 | .ret a,b,e,h=>by
  simp only[kev,_y]at e;subst e;exact h | .ask i j k,b,e,h=>by
  unfold kev at e;split at e
  ·rename_i aJ;exact hc i j _ aJ.1 aJ.2 (zef hc (k (lt i j)) b e h)
  ·cases e
noncomputable def lexLt(p q:Int×Int):Bool:=af! p.1 q.1 (af! p.2 q.2 t! (dO! p.2 q.2)) (dO! p.1 q.1)
def zeg(h:Heap)(v:Value)(p:Int×Int):j!:=∃a o n t u,v=ad!/\cx! a/\fV!=du!/\hU!=.seq #[bJ! p.1,bs! p.2 u] n
inductive wu (h:Heap):cR!->mH!->j! | nil:wu h [] [] | cons {v p vs ps}:zeg h v p->wu h vs ps->wu h (v::vs) (p::ps)
theorem wu.length{h:Heap}:∀{vs ps},wu h vs ps->mg!
 | _,_,.nil=>rfl | _,_,.cons _ r=>by simp[r.length]
theorem wu.at_{h:Heap}:∀{vs ps},wu h vs ps->∀i,i<a5!->zeg h (vs.getD i X!) (f8! (0,0))
 | _,_,.nil,i,hi=>by simp at hi | _,_,.cons p r,0,_=>by simpa using p | _,_,.cons p r,i+1,hi=>by simpa using r.at_ i (by simpa using hi)
theorem wu.mono{h h':Heap}(k:bz! (cx! b->dn! b)):∀{vs ps},wu h vs ps->wu h' vs ps
 | _,_,.nil=>cn! | _,_,.cons ⟨a,o,n,t,u,e,g,c,d⟩ r=>ep! ⟨a,o,n,t,u,e,k _ _ g,c,d⟩ (r.mono k)
theorem wu.tups{h:Heap}:∀{vs ps},wu h vs ps->∃fs,KatTups h vs fs/\fs.length=a5!/\∀v∈fs,∃i t,v=bJ! i
 | _,_,.nil=>eS! [] KatTups.nil (lc! (by cases hv)) | _,_,.cons (p:=p) ⟨a,o,n,t,u,e,g,c,d⟩ r=>by
  obtain⟨fs,k,l,m⟩:=r.tups;subst e;refine⟨bJ! p.1::fs,KatTups.cons g c d rfl k,by simp[l],lc! ?_⟩;rcases d2! hv with rfl | hv;·exact b1! _
  ·exact m v hv
section
variable {prog:Program}{w:World}{A:Around}{E:bP!}{s:Shared}
theorem zme{v u:Value}{p q:Int×Int}{C:b5!->eh!}(hv:zeg G! v p)(hu:zeg G! u q)(h:C (n5! p q) s):ct! w A (keyLt' lz! v u) C E s:=by
 obtain⟨a,o,n,t,t',rfl,g,c,d⟩:=hv;obtain⟨b,o',n',x,x',rfl,g',c',d'⟩:=hu;refine kat_lt g d g' d' (kat_cons (_b4 (kat_go (λe=>kat_yes (kat_cons (_b4 (kat_go (λe2=>kat_yes (kat_nil ?_)) λe2=>kat_no ?_)))) λe=>kat_no ?_)))
 ·have e1:p.1=q.1:=by simpa using e
  have e3:p.2=q.2:=by simpa using e2
  simpa[lexLt,e1,e3] using h
 ·have e1:p.1=q.1:=by simpa using e
  have e3:¬ p.2=q.2:=by simpa using e2
  refine kat_one _ _ (PyProof.Rows.lt_int ?_);show C _ s;simpa[lexLt,e1,e3] using h
 ·have e1:¬ p.1=q.1:=by simpa using e
  have hb:(c!&&(dM! 0==0))=c!:=rfl;rw[hb];refine oneLt_int ?_;simpa[lexLt,e1] using h
theorem zeT{vs:cR!}{ps:mH!}{Q:SortKind->eh!}(hp:wu G! vs ps)(h0:0<a5!)(h:Q lz! s):ct! w A (keyKind' es!) Q E s:=by
 obtain⟨fs,k,l,m⟩:=hp.tups;refine kat_kind (T:=aF! ee!) k (by rw[l];exact h0) (lc! ?_) rfl h;obtain⟨i,t,rfl⟩:=m v hv;exact Looks.of_pure rfl
noncomputable def z7k(vs:cR!)(p:fe!):cq!:=List.toArray (jP! (vs.getD i Value.none))
theorem zbT{a:Addr} {vs:cR!} {ps:mH!} {n:Nat} {p:fe!} {P:PySem.Fin->eh!} (ho:fx! a (me! n)) (hp:∀h',(bz! (b≠a->da! b->dn! b))->wu h' vs ps) (h2:2<=dq!) (fN:dq!<64) (he:q9! (λi j=>n5! (f8! (0,0)) (oK! (0,0))) rA!=b! p) (h:P (.done (.ret X!)) {s with heap:=sortedHeap G! a vs (z7k vs p)}):ct! w A (Builtin.«list.sort» (dy! [ad!])) P E s:=by
 have ha:a<am!:=_r ho;have ai:dq!<=aW!:=by rw[sizeLine_eq];lia
 have bM:mg!:=r! (hp G! λ_ _ _ e=>e);obtain⟨e1,g1⟩:∃e1,eK! (lr! a (λ_=>(#[]:cq!))) a (kx! #[] e1):=gc! (get?_update_seq ho λ_=>#[]);have g2:eK! (cY! (cY! (lr! a (λ_=>(#[]:cq!))) (oI! 0)) (kx! #[] 0)) a (kx! #[] e1):=_g _ (_g _ g1);have eB:wu (cY! (cY! (lr! a (λ_=>(#[]:cq!))) (oI! 0)) (kx! #[] 0)) vs ps:=hp _ (ki! (_g _ (_g _ (bL! ((_bF G! a (sA! (λ_=>(#[]:cq!)))).2 b hb) e))));rw[list_sort_plain];refine _a (listItems_at ho rfl (_a (_cd ho rfl (_a (_cX g1 rfl (_a (_cE (_a (_da (_aR ?_) gM!)) ai)))) (by rw[_s];exact ai) gM!)));have bS:¬ vs.toArray.size<2:=by rw[_s];lia
 dsimp only;rw[_q bS,_q bS];refine _a (zeT (s:={s with heap:=cY! (cY! (lr! a (λ_=>(#[]:cq!))) (oI! 0)) (kx! #[] 0)}) eB (by lia) ?_);refine _a (_Z (kat_run (ks:=vs) (vs:=vs) (G:=λq s'=>q=p/\s'={s with heap:=cY! (cY! (lr! a (λ_=>(#[]:cq!))) (oI! 0)) (kx! #[] 0)}) (Q:=λay s'=>∃q:Array Nat,q.size=dq!/\o9! ay=q.map (qr! jM!)/\sr!=a!/\q=p/\s'={s with heap:=cY! (cY! (lr! a (λ_=>(#[]:cq!))) (oI! 0)) (kx! #[] 0)}) rfl h2 fN (λq ay s' a1 a2 a3 a4=>⟨q,a1,a2,a3,a4⟩) (zef (n:=ps.length) (λi j C hi hj hC=>?_) _ p (by rw[bM];exact he) (ch! rfl))) ?_ λ_ _ z=>z);·exact zme (eB.at_ i hi) (eB.at_ j hj) hC
 rintro⟨⟨⟩,ay⟩ s' ⟨q,hq,iC,hf,rfl,rfl⟩;dsimp only;have fO:=kat_snds (ks:=vs) (vs:=vs) rfl iC;rw[fO,hf];refine _a (_cX g2 rfl (_a (_cd g2 rfl ?_ gM! (by rw[_s,_W,_aW,hq];exact _cY ai))));simp only[_cZ,Bool.false_eq_true,_a0];exact _m h
theorem zfF{l:Addr} {vs:cR!} {ps:mH!} {p:fe!} {Q:bP!} (hl:s.heap.IsList l es!) (hp:wu G! vs ps) (h2:2<=dq!) (fN:dq!<64) (he:q9! (λi j=>n5! (f8! (0,0)) (oK! (0,0))) rA!=b! p) (h:Q (q! dD!) {s with heap:=so! vs (z7k vs p)}): ct! w A (pJ! k0! [ei!]) Q E s:=by
 have ai:dq!<=aW!:=by rw[sizeLine_eq];lia
 refine Calls.call_function_entry kind_sorted plain_sorted entry_sorted (args_sorted1 _) ?_;unfold Builtin.«sorted»;refine _a (m:=checkCount k0! 1 1 _) (_m (_a (collect_list hl (_a (_da ?_ (by rw[sizeLine_eq];lia))) (by rw[sizeLine_eq];lia))));have sz:d1! (oB! (ow! #[] 0) (· ++ es!))=dD!:=by rw[Heap.size_update,size_push']
 have g:eK! (cY! (oB! (ow! #[] 0) (· ++ es!)) (me! 0)) dD! (me! 0):=by
  rw[<- sz];exact gN!
 have keep:bz! (da! b->eK! (cY! (oB! (ow! #[] 0) (· ++ es!)) (me! 0)) b o/\b≠dD!):=λb o q=>by
  have lt:b<am!:=_r q;refine⟨?_,_D (_aU lt)⟩;rw[_b0 _ _ _ (by rw[sz];exact _D (_aU lt)),Heap.get?_update_ne _ _ _ _ (_D lt),_b0 _ _ _ (_D lt)];exact q
 show ct! w _ _ _ _ ({s with heap:=cY! (oB! (ow! #[] 0) (· ++ es!)) (me! 0)});rw[sz];exact _a (_aR (_at slot_list_sort (b1! g) entry_list_sort (zbT g (λh' k=>hp.mono λb o q=>k b o (keep b o q).2 (keep b o q).1) h2 fN he (aA! _ (_m (bG! rfl h)))) (args_list_sort _)))
end
section
variable {X:Cx}{E:XK}
def z3U:C!->bh! mH!
 | []=>b! [] | .tup [.int a,.int b]::r=>(z3U r).map λt=>(a,b)::t | _=>none
def zlJ(K:W.Frag):aU!->Hp->ej!:=λxs H Q=>∃(l:Addr)(ys:List V)(ps:List (Int×Int))(p:Array Nat),xs=[ei!]/\SqL K H l ys/\dr!=a5!/\2<=dr!/\dr!<64/\ (∀i,i<a5!->∃a,aj! ys ad!/\en! K a (bO! (f8! (0,0)).1 (f8! (0,0)).2))/\ q9! (λi j=>n5! (f8! (0,0)) (oK! (0,0))) rA!=b! p/\(∀i∈p.toList,i<dr!)/\rN! dr!/\∀r,H r=a!->Q (q! r) (hE! r (ab! (jP! (rd! i))))
theorem zdq{ae:c4!}{O:L2.St}{H:Hp}{s:Shared}(I:K!):∀{ys:List V}{af:List Value}{ps:List (Int×Int)},hr! ys->dr!=a5!-> (∀i,i<a5!->∃a,aj! ys ad!/\en! X.K a (bO! (f8! (0,0)).1 (f8! (0,0)).2))->wu G! af ps
 | [],_,[],.nil,_,_=>cn! | [],_,_::_,_,l,_=>by simp at l | _::_,_,[],_,l,_=>by simp at l | y::ys,_,q::ps,.cons r rs,l,h=>by
  refine ep! ?_ (zdq I rs (by simpa using l) (e8! (by simpa using h (i+1) (by simpa using hi))));obtain⟨a,e,t⟩:=h 0 (by simp);simp only[_c,_y]at e;subst e;cases r;obtain⟨aP,r',pl,_⟩:=k8! t;obtain⟨o,ho,hc,n,hd⟩:=pl;simp only[List.getD_cons_zero]at r';obtain⟨u,us,rfl⟩:∃u us,aP=u::us:=by cases r';exact b1! _
  cases r' with | cons r1 r2=>
   obtain⟨t1,rfl⟩:=r1;obtain⟨t2,rfl,t3,rfl⟩:=vals1 r2;exact⟨a,o,n,t1,t3,rfl,ho,hc,hd⟩
theorem zaP:∀{ys:List V}{af:List Value},hr! ys->∀i,i<dr!->wA (rd! i) (af.getD i X!)
 | [],_,.nil,i,hi=>by simp at hi | y::ys,_,.cons r rs,0,_=>by simpa using r | y::ys,_,.cons r rs,i+1,hi=>by simpa using zaP rs i (by simpa using hi)
theorem z8J{ys:aU!}{af:cR!}(h:hr! ys):∀(p:List Nat),(∀i∈p,i<dr!)->xn (p.map λi=>rd! i) (p.map λi=>af.getD i X!)
 | [],_=>cn! | i::p,hp=>ep! (zaP h i (hp i ju!)) (z8J h p λj hj=>hp j (.tail _ hj))
theorem zaO:je! X k0! (zlJ X.K):=by
 intro ae s O H xs us Q I r h;obtain⟨l,ys,ps,p,rfl,hq,len,h2,fN,dR,he,hp,au,q⟩:=h;obtain⟨u,rfl,rx⟩:=kJ!;cases rx;obtain⟨af,r',pl,hz⟩:=lG!;have ao:=r'.length;refine zfF (ps:=ps) (p:=p) pl.isList (zdq I r' len dR) (by lia) (by lia) he ?_;obtain⟨c',e⟩:=sortedAll_at G! af (z7k af p);refine⟨q! dD!,_,I.laid (t':=s.toks) (λb o z=>sortedAll_old z) (_cW _) (show jG aR! X.w _ (so! af (z7k af p)) _ (ab! (jP! (rd! i))) from⟨?_,_,c',z8J r' p.toList hp,e⟩),rfl,q _ (rY! (_cW _))⟩;rw[_W,au];exact hz
def z2W:C!->bn!
 | [d],s=>match lM! d with
  | some xs=>match z3U xs with
   | some ps=>aa! (2<=v!/\v!<64) (match q9! (λi j=>n5! (f8! (0,0)) (oK! (0,0))) rA! with
     | some p=>aa! (p.toList.all (λi=>dO! i v!)=c!/\rN! v!) (bw! (jP! (xs.getD i at!))) | none=>.no) | none=>.no
  | none=>.no
 | _,_=>.no
theorem z5U{mg:Gm}{H:Hp}{Y:bk!}:∀{xs:List D}{ps:List (Int×Int)}{vs:List V},z3U xs=b! ps->he!->v!=a5!/\ ∀i,i<a5!->∃a,aj! vs ad!/\en! m5! a (bO! (f8! (0,0)).1 (f8! (0,0)).2)
 | [],ps,vs,e,h=>by
  simp only[z3U,_y]at e;subst e;exact f5! (e8! (by simp at hi)) | x::xs,ps,vs,e,h=>by
  unfold z3U at e;split at e;·simp at *
  ·rename_i a b r z;cases z;cases q:z3U xs with
   | none=>rw[q]at e;simp at e | some t=>
    rw[q]at e;simp only[_af,_y]at e;subst e;simp only[yj]at h;obtain⟨v,ws,rfl,h1,h2⟩:=h;obtain⟨l,k⟩:=z5U q h2;refine⟨by simp[l],e8! ?_⟩;cases i with
    | zero=>
     obtain⟨c,us,rfl,q1,q2⟩:=kW (K:=mg.K) h1;obtain⟨v1,v2,rfl,d1,d2⟩:=za4 q2;cases yq d1;cases yq d2;exact aA! c q1 | succ i=>simpa using k i (by simpa using hi)
  ·cases e
theorem zbX{mg:Gm}{H:Hp}{Y:bk!}:∀{xs:List D}{vs:List V},he!->∀i,i<v!->j3! (xs.getD i at!) (vs.getD i at!)
 | [],_,_,i,hi=>by simp at hi | x::xs,vs,h,i,hi=>by
  simp only[yj]at h;obtain⟨v,ws,rfl,h1,h2⟩:=h;cases i with
  | zero=>simpa using h1 | succ i=>simpa using zbX h2 i (by simpa using hi)
theorem z9w{mg:Gm}{H:Hp}{Y:bk!}{xs:C!}{vs:aU!}(h:he!):∀(p:List Nat),(∀i∈p,i<v!)->f9! H Y (p.map λi=>xs.getD i at!) (p.map λi=>vs.getD i at!)
 | [],_=>by simp[yj] | i::p,hp=>by
  simp only[_p,yj];exact gB! _ _ (zbX h i (hp i ju!)) (z9w h p λj hj=>hp j (.tail _ hj))
theorem ziE:∃r,je! X k0! r/\z1I X E r z2W:=jN! zaO.freeze (by
 unfold z2W at h;split at h
 ·split at h
  ·rename_i d xs e;split at h
   ·rename_i ps oh;split at h
    ·rename_i h2;split at h
     ·rename_i p ep;split at h
      ·rename_i hp;obtain⟨v,rfl,dn⟩:=kU!;obtain⟨a,ws,rfl,q1,q2⟩:=yn r e dn;obtain⟨l,k⟩:=z5U oh q2;have hl:=q2.length;have cz:∀i∈p.toList,i<v!:=e8! (by simpa using _S.mp hp.1 i hi)
       exact⟨a,ws,ps,p,rfl,w! q1,by lia,by lia,by lia,k,ep,e8! (by have:=cz i hi;lia),by rw[hp.2];lia,z04 r h (z9w q2 _ cz)⟩
      ·exact h.elim
     ·exact h.elim
    ·exact h.elim
   ·exact h.elim
  ·exact h.elim
 ·exact h.elim)
end
end Dd
namespace L2
section
variable {X:Cx}{v1 v2 e:Expr}{t1 t2 te:TE}{k1 k2:Str}{ap ak bH p1 p2:Pos}{j1 j2:Nat}
theorem zhK(hk:k1≠k2)(h1:U! v1 t1)(h2:U! v2 t2)(he:U! e te) (am:y! (lw! (.Dict [ik! k1 j1 p1,ik! k2 j2 p2] [v1,v2] bH) "get" (g0! (.Dict [ik! k1 j1 p1,ik! k2 j2 p2] [v1,v2] bH)) = g0! (.Dict [ik! k1 j1 p1,ik! k2 j2 p2] [v1,v2] bH))) (aH:c6! (hd! (hC! ak [e]) (! x.1)&&hd! (no! ak []) (iq! x.1) && bi! (r! [e]+r! ([]:gz!)+(nd! ([]:gz!) 0 1)<30))) (ai:c6! pH!)(hs:y! (hC! ak [e]=[dF!])): U! (e6! (ml! (.Dict [ik! k1 j1 p1,ik! k2 j2 p2] [v1,v2] bH) "get") [e] [] ak) (gt! (t1 O H λx1 H1=>t2 O H1 λx2 H2=>te O H2 λy H3=>∃k,y=ax! k/\Q (af! k k1 x1 (af! k k2 x2 at!)) H3)):=by
 intro ae s O H Q I h;refine _bW am aH ai hs (wpAny_Dict_walk (knd:=rM! X.w) rfl rfl (by simp) (Nat.le_of_ble_eq_true rfl) ?_);have far:=I.far;have I0:lt! ({s with heap:=hW! ({cls:=jQ!,data:=lf! #[]})}):=I.kept (t':=s.toks) λb u z=>_g _ z;have fp:∀b∈[am!],zbQ X ae H b:=ce! (by
  cases _bj.mp hb;exact I.fpOk ah! (mc! _))
 have g0:eK! (hW! ({cls:=jQ!,data:=lf! #[]})) am! ({cls:=jQ!,data:=lf! #[]}):=gN!;have I1:=I0.pinned fp (ce! (by
  cases _bj.mp hb;exact bG! g0 (by intro v z;cases z)))
 have d0:(hW! ({cls:=jQ!,data:=lf! #[]})).DictOf (rM! X.w) am! []:=Heap.DictOf.new _;refine pairTrees_cons_walk (_cv (thn (h1 _ _ O H _ (I1.tok _) h) λu1 s1 ⟨x1,H1,I2,r1,q1⟩=>?_));refine pairTrees_cons_walk (_cv (thn (h2 _ _ O H1 _ (I2.tok _) q1) λu2 s2 ⟨x2,H2,I3,r2,q2⟩=>pairTrees_nil_walk ?_));have pin:=I3.pin _ (_N _ (_N _ (jO ju! g0)));refine⟨[(k1,u1),(k2,u2)],bj! (strKind_is _ _ _ _) rfl (strKind_is _ _ _ _) la!,d0.at λo z=>?_,λh' dd sb=>?_⟩
 ·rw[g0]at z;cases z;exact pin.1
 have em:merged ([]:dv! dG!) [(k1,u1),(k2,u2)]=[(k1,u1),(k2,u2)]:=by simp[merged,stored,hk]
 rw[em]at dd;obtain⟨f0,f1,f2,f3,f4,f5⟩:=fp _ ju!;have I4:cB! H2 ({s2 with heap:=h',toks:=s2.toks+2}):=I3.unpinned.turned (it:=s.heap.objs.size) (λb o hb z=>bL! (sb.2 b hb) z) pin.2.1 pin.2.2.1 f3 f4 f5;obtain⟨od,es,ep,ho,hx,hd,_⟩:=dd;have oj:∀b∈[am!],zbQ X ae H2 b:=ce! (by
  cases _bj.mp hb;exact⟨pin.2.1,f1,f2,f3,f4,f5⟩)
 have I5:=I4.pinned oj (ce! (by
  cases _bj.mp hb;exact bG! ho (by intro v z;rw[hd]at z;cases z)))
 have dd:h'.DictOf (rM! X.w) am! [(k1,u1),(k2,u2)]:=⟨od,es,ep,ho,hx,hd,by assumption⟩;refine⟨np!,"dict.get",PySem.F.plainAttrs_dict,PySem.F.slot_dict_get,PySem.F.type_dict_get,Heap.DictOf.typeIs (s:={s2 with heap:=h',toks:=s2.toks+2}) dd,λa z=>?_,?_⟩
 ·cases z;exact aQ! od ho hx.2.1
 refine _bX rfl (_bv (_cA (thn (he _ _ O H2 _ I5 q2) λu3 s3 ⟨y,H3,I6,r3,k,ey,q3⟩=>_cQ ?_)));subst ey;obtain⟨t,rfl⟩:=r3;have iD:=I6.pin _ (_N _ (_N _ (jO ju! ho)));have lR:s3.heap.DictOf (rM! X.w) am! [(k1,u1),(k2,u2)]:=dd.at λo z=>by
  have z':dn! am!:=z;rw[ho]at z';cases z';exact iD.1
 refine call_meetsIn PySem.F.slot_dict_get lR.typeIs PySem.F.entry_dict_get (PySem.F.args_dict_get_2 _ _) (meets_dict_get (rM! X.w) am! (strKind_is _ _ k t) far) ⟨_,lR.mapOf,_,H3,I6.unpinned.tok _,?_,q3⟩;by_cases c1:k=k1
 ·subst c1;simpa[valueAt] using r1
 ·by_cases c2:k=k2
  ·subst c2;simpa[valueAt,hk,c1] using r2
  ·have e1:¬ k1=k:=λz=>c1 i4!;have e2:¬ k2=k:=λz=>c2 i4!;simp only[valueAt,List.find?,e1,e2,c1,c2,_ct,_a0,Option.map_none,_de];rfl
end
open PySem.Builtin.Str
section
variable {X:Cx}{o e:Expr}{to te:TE}{ap ak pos:Pos}
theorem zja(ho:U! o to)(am:y! (lw! o "upper" gg!=gg!))(ai:c6! pH!): U! (e6! (ml! o "upper") [] [] ak) (gt! (to O H (hu! (∃z,x=ax! z/\tooLong (r! (Txt.upper z))=t!/\Q (ax! (Txt.upper z)) H1)))):=by
 intro ae s O H Q I h;refine Call_method0 am ai (thn (ho ae s O H _ I h) λv s1 ⟨x,H1,I1,r1,z,ez,hz,q⟩=>?_);subst ez;obtain⟨t,rfl⟩:=r1;exact SB.upper hz ⟨ax! (Txt.upper z),H1,I1.tok _,ch! _,q⟩
def zuy:V->df!->df!->Hp->ej!:=p8! (∃z i,x=ax! z/\lo=ig!/\hi=a!/\pa!<=aW!/\Q (ax! (q3! z ig!)) H)
theorem zqt:SlR X zuy:=by
 intro ae s O H x v vl vu lo hi sl Q I rx hs pl pu h;obtain⟨z,i,rfl,rfl,rfl,hz,q⟩:=h;obtain⟨t,rfl⟩:=rx;obtain⟨ob,ho,hc,hd⟩:=hs;cases pl with | int i ti=> cases pu with | none=>
   refine⟨fU!,_,PySem.F.slot_str_getitem.lookup,typeIs_str _ _ _,wpAny_getItem_str_slice (l:=b! (i,ti)) (u:=none) (st:=none) ⟨ob,ho,hc,hd⟩ rfl (post_val_or_str ⟨_Y (Txt.slice_le z _ _) hz,λt' k=>?_⟩)⟩;exact⟨ax! (q3! z ig!),H,ia!,ch! _,q⟩
end
end L2
namespace Dd
open L2 PySem.Builtin.Str
section
variable {X:Cx}{E:XK}{o e v1 v2:Expr}{ap ak bH p1 p2 pos:Pos}{k1 k2:Str}{j1 j2:Nat}
theorem zd6{mg:Gm}{H:Hp}{Y:bk!}{z:Str}:j3! (ax! z) (ax! z):=by rfl
noncomputable def zln(f:FE):FE:=eu! (dV! (match d with
 | .str z=>aa! (tooLong (r! (Txt.upper z))=t!) (T! (ax! (Txt.upper z))) | _=>.no))
theorem zlV{f:FE}(ho:W! o f)(am:y! (lw! o "upper" gg!=gg!))(ai:c6! pH!): W! (e6! (ml! o "upper") [] [] ak) (zln f):=yk (zja ho am ai) λO H Q ⟨Y,ρ,s,r,en,h⟩=>by
 refine yI (k:=km! (match d with | .str z=>aa! (tooLong (r! (Txt.upper z))=t!) (et! (D.str (Txt.upper z)) s1) | _=>.no)) r en h _ λv H1 Y1 s1 d r1 av dn stp h1=>?_;cases d with
 | str z=>
  cases z06 dn;simp only at h1;split at h1
  ·rename_i hz;exact mq! z hz (ri! zd6)
  ·exact h1.elim | _=>exact h1.elim
noncomputable def zu3(f:FE)(fl:FO):FE:=eu! (dV! (z! (fl ρ s1) (λlo s2=>match d,lo with
 | .str z,some i=>aa! (pa!<=cap) (b2! (ax! (q3! z ig!))) | _,_=>.no)))
theorem ziP{lo:rQ!}{p2:Pos}{fe:FE}{fl:FO}(he:e0! fe)(hl:RO X E lo fl):W! (mi! e (.Slice lo a! a! p2)) (zu3 fe fl):= yk (zdK zqt he hl zgy) λO H Q ⟨Y,ρ,s,r,en,h⟩=>by
  refine yI (k:=km! (z! (fl ρ s1) (λlo s2=>match d,lo with | .str z,some i=>aa! (pa!<=cap) (et! (D.str (q3! z ig!)) s2) | _,_=>.no))) r en h _ λv H1 Y1 s1 d r1 av dn stp h1=>?_;refine zcQ (k:=fun ρ lo s2=>match d,lo with | .str z,some i=>aa! (pa!<=cap) (et! (D.str (q3! z ig!)) s2) | _,_=>.no) r1 av h1 _ λlo H2 Y2 s2 r2 aY ag h2=>?_;cases d with
  | str z=>
   cases z06 dn;cases lo with
   | none=>exact h2.elim | some i=>
    simp only at h2;split at h2
    ·rename_i hz;exact⟨z,i,rfl,rfl,rfl,kM hz,h2.here r2 zd6⟩
    ·exact h2.elim
  | _=>cases lo<;>exact h2.elim
def zk7:D->D->bn!
 | .str a,.str b,s=>aa! (a.length+nY!<=cap) (k! (ax! (a++b))) | _,_,_=>.no
theorem zky:∃r,gf! .Add r/\cK! zk7:=by
 refine bG! zeG ?_;intro H Y s d1 d2 v1 v2 Q r h1 h2 h;unfold zk7 at h;split at h
 ·rename_i a b;cases z06 h1;cases z06 h2;split at h
  ·rename_i hl;exact⟨a,b,rfl,rfl,kM hl,eB! zd6⟩
  ·exact h.elim
 ·exact h.elim
noncomputable def zfM(k1 k2:Str)(f1 f2 fe:FE):FE:=bW! (f1 ρ s) (λx1 s1=>z! (f2 ρ s1) (λx2 s2=>z! (fe ρ s2) (λy s3=>match y with
 | .str k=>.ok (af! k k1 x1 (af! k k2 x2 at!)) s3 | _=>.no)))
theorem zpJ{f1 f2 fe:FE}(hk:k1≠k2)(h1:W! v1 f1)(h2:W! v2 f2)(he:e0! fe) (am:y! (lw! (.Dict [ik! k1 j1 p1,ik! k2 j2 p2] [v1,v2] bH) "get" (g0! (.Dict [ik! k1 j1 p1,ik! k2 j2 p2] [v1,v2] bH)) = g0! (.Dict [ik! k1 j1 p1,ik! k2 j2 p2] [v1,v2] bH))) (aH:c6! (hd! (hC! ak [e]) (! x.1)&&hd! (no! ak []) (iq! x.1) && bi! (r! [e]+r! ([]:gz!)+(nd! ([]:gz!) 0 1)<30))) (ai:c6! pH!)(hs:y! (hC! ak [e]=[dF!])): W! (e6! (ml! (.Dict [ik! k1 j1 p1,ik! k2 j2 p2] [v1,v2] bH) "get") [e] [] ak) (zfM k1 k2 f1 f2 fe):= yk (zhK hk h1 h2 he am aH ai hs) λO H Q ⟨Y,ρ,s,r,en,h⟩=>by
  refine yI (k:=fun ρ x1 s1=>z! (f2 ρ s1) (λx2 s2=>z! (fe ρ s2) (λy s3=>match y with | .str k=>et! (af! k k1 x1 (af! k k2 x2 D.non)) s3 | _=>.no))) r en h _ λu1 H1 Y1 s1 x1 r1 av d1 nX h1=>?_;refine yI (k:=fun ρ x2 s2=>z! (fe ρ s2) (λy s3=>match y with | .str k=>et! (af! k k1 x1 (af! k k2 x2 D.non)) s3 | _=>.no)) r1 av h1 _ λu2 H2 Y2 s2 x2 r2 aY d2 bn h2=>?_;refine yI (k:=fun ρ y s3=>match y with | .str k=>et! (af! k k1 x1 (af! k k2 x2 D.non)) s3 | _=>.no) r2 aY h2 _ λu3 H3 Y3 s3 y r3 nj d3 cE h3=>?_;cases y with
  | str k=>
   cases z06 d3;refine aA! k (h3.here r3 ?_);split;·exact (d1.mono bn).mono cE
   ·split;·exact d2.mono cE
    ·rfl | _=>exact h3.elim
end
end Dd
namespace Dd
open L2
section
variable {X:Cx}{E:XK}{e a b c tg iter az:Expr}{es:aC!}{pos:Pos}{CX:CXT}
variable {scope:Scope}{aC:aC!}{fi:FI}{fg:FG}{ft:FT}{fe:FE}{g:TG}{aF py:Pos}
theorem zem(N':al!)(mp:eC!)(hc:bY!)(hi:RI X E tg hV! fi)(hg:lF! cm! tg g)(cu:z7o B! E mp g fg)(ht:lC! cm! aC (tT B! E ft))(he:pK! cm! az fe) (aV:y! jU!)(aR:c6! (zfR ld!))(aI:c6! si!)(aW:c6! (kd! N' mp)) (hs:kT! (kL! x=kS!)):W! (fL! [gj! 0]) (z19 fi mp fg ft fe):= yk (zgH (te:=tE B! E fe) N' mp hc hi hg ht (λex s H=>he ex s H) aV (z5d aR) (z4Z aI) aW hs) λO H Q ⟨Y,ρ,s,r,en,h⟩=>by
  refine z5n cu r en h λH1 Y1 s1 xs vs r1 av dn h1 bK=>?_;split at h1
  ·rename_i hf;exact zfB r1 h1 hf dn
  ·exact h1.elim
end
section
variable {X:Cx}{E:XK}{es:aC!}{fa:FE}{fr:FA}
theorem aN(ha:fG! (ff! p))(hr:RA X E es fr):RA X E ((ff! p)::es) (zb fa fr):=qV ha hr (zu ..)
theorem aK(ha:fG! (jm! c p))(hr:RA X E es fr):RA X E ((jm! c p)::es) (zb fa fr):=qV ha hr (z8p ..)
theorem aQ(ha:fG! (e6! g xs ks p))(hr:RA X E es fr):RA X E ((e6! g xs ks p)::es) (zb fa fr):=qV ha hr (xL ..)
theorem aT(ha:fG! (hv! xs k p))(hr:RA X E es fr):RA X E ((hv! xs k p)::es) (zb fa fr):=qV ha hr (zdD ..)
theorem aS(ha:fG! (rl! b p))(hr:RA X E es fr):RA X E ((rl! b p)::es) (zb fa fr):=qV ha hr (z0T ..)
theorem aB(ha:fG! (.BinOp a o b p))(hr:RA X E es fr):RA X E ((.BinOp a o b p)::es) (zb fa fr):=qV ha hr (zj9 ..)
theorem aL(ha:fG! (.List xs p))(hr:RA X E es fr):RA X E ((.List xs p)::es) (zb fa fr):=qV ha hr (zjM ..)
theorem aO{a:Expr}{g:dZ! Comprehension}{sc:Scope}{p:Pos}(ha:fG! (.ListComp a g sc p))(hr:RA X E es fr):RA X E ((.ListComp a g sc p)::es) (zb fa fr):=qV ha hr (zH ..)
theorem aM(ha:fG! (.Compare a o b p))(hr:RA X E es fr):RA X E ((.Compare a o b p)::es) (zb fa fr):=qV ha hr (z4X ..)
theorem aU(ha:fG! (.UnaryOp o a p))(hr:RA X E es fr):RA X E ((.UnaryOp o a p)::es) (zb fa fr):=qV ha hr (zna ..)
theorem ztU{pos:Pos} {p:Pos} (F:Has aR! X.w X.K e4! eP! CX x n M) (hr:hp! X.A) (hx:kF! X E) (ha:RA X E (e::es) f) (hk:jK! (n<=k)) (hg:y! eL!) (aG:b8! (x==cz!)) (he:y! (aq! (e::es)=dF!::if!)) (au:dU! es (·.1)):W! (c9! x p (e::es)) (zg M f):=zqm F (hr.mono hk) hx hg ha aG he au
end
section
variable {q:Ask}{w:World}{K:W.Frag}{h:Heap}{mg:Str->aN!}
theorem zl6(X:hM!)(G:or! mg)(e:zdE q K=iP! q)(i:Nat) {st:Stmt}(hx:aj! q.fs (x,st)):∃f fd,mg x=a3! f/\Fun K x x st f fd:=let ⟨f,fd,a,F⟩:=zsV e x st (_u hx);⟨f,fd,W.mg_of X G a,F⟩
theorem uA(X:hM!)(G:or! mg)(e:zdE q K=iP! q)(i:Nat) (hx:aj! q.bs x):hi! x:=W.mg_none_of X G (zrB e x (_u hx))
theorem zkP(X:hM!)(G:or! mg)(e:zdE q K=iP! q)(i:Nat) (hx:aj! q.cs (x,c)):∃t,mg x=b! (bJ! c):=let ⟨t,z⟩:=ztb e x c (_u hx);⟨t,W.mg_of X G z⟩
end
def Fq(K:W.Frag)(mg:Str->aN!)(x:Str)(st:Stmt):j!:=∃f fd,mg x=a3! f/\Fun K x x st f fd
class Hs (P:Program)(w:World)(K:W.Frag)(mg:Str->aN!)(base:Heap)(CX:CXT)(x:Str)(n:outParam Nat)(M:outParam Mir):j! where h:Has P w K mg P! CX x n M
structure Rm(P:Program)(w:World)(K:W.Frag)(mg:Str->aN!)(base:Heap)(k:Nat)(A:Around):j! where r:hp! A
section
variable {P:Program}{w:World}{K:W.Frag}{mg:Str->aN!}{base:Heap}{k n:Nat}{A:Around}
theorem Rm.units(h:Rm P w K mg P! k A):o0!+64<m1!:=h.r.units
theorem Rm.mono(h:Rm P w K mg P! k A)(l:n<=k):z1L n A:=h.r.mono l
theorem Rm.has(_:Rm P w K mg P! k A)(x:Str){M:Mir}[F:ae! x n M]:Has P w K mg P! CX0 x n M:=F.h
theorem r_k{pos:Pos} {p:Pos} (hr:Rm P w K mg P! k A) (ha:RA X E0 (e::es) f) [F:ae! x n M] (q:y! ((X.A,aR!,X.w,X.K,e4!,eP!)=(A,P,w,K,mg,P!))) (hk:n<=k:=by first | decide | omega) (hg:y! eL!) (aG:b8! (x==cz!)) (he:y! (aq! (e::es)=dF!::if!)) (au:dU! es (·.1)) : RE X E0 (c9! x p (e::es)) (zg M f):=by cases q;exact ztU F.h hr.r zjx ha hk hg aG he au
theorem Hs.tidy(h:f1! P w K mg CX x n M):f1! P w K mg CX x n (z4Q M):=⟨h.h.tidy⟩
theorem yz{st:Stmt} (q:Fq K mg x st)(S:S! N ps st) (body:∀{f:Addr}{aj:Value}{A:Around}{outer:List Env}{s:Shared}{H:Hp}{E:XK},Rm P w K mg P! k (jV! x cV! f aj)->(z4E CX0 P w K mg P! N x cV! f aj A an! s H E).nox.calm=c!-> RSs (z4E CX0 P w K mg P! N x cV! f aj A an! s H E).nox E0 hR! fs) (hb:rw! (mU!=a5!) (p5! (W.fnOf x x (jt st) hR! cV! X! kV aE pm an aj ct) (dy! us)=dH! lH!))(hn:y! (a5!=n)):ae! x (k+1) (Mof N n fs):= let ⟨_,_,hm,F⟩:=q;⟨zpL F hm (F.binds hb) S hn λ_ _ _ _ _ _ hr hc=>body ⟨hr⟩ hc⟩
theorem zpk{st:Stmt}{ps:al!}(q:Fq K mg x st) (hb:rw! (mU!=a5!) (p5! (W.fnOf x x (jt st) hR! cV! X! kV aE pm an aj ct) (dy! us)=dH! lH!))(n:Nat):ae! x n (λ_ _=>.no):= let ⟨_,_,hm,F⟩:=q;⟨(zq3 F hm (F.binds hb)).mono gM!⟩
end
class HsH (P:Program)(w:World)(K:W.Frag)(mg:Str->aN!)(base:Heap)(CX:CXT)(x:Str)(n:outParam Nat)(M:outParam Mir):j! where h:zqB P w K mg P! CX x n M
section
variable {P:Program}{w:World}{K:W.Frag}{mg:Str->aN!}{base:Heap}{k n:Nat}{A:Around}
theorem Rm.hasX(_:Rm P w K mg P! k A)(x:Str){M:Mir}[F:f1! P w K mg dA! x n M]:Has P w K mg P! dA! x n M:=F.h
theorem Rm.hasH(_:Rm P w K mg P! k A)(x:Str){M:Mir}[F:HsH P w K mg P! CX0 x n M]:zqB P w K mg P! CX0 x n M:=F.h
theorem z7E{X:Cx} {E:XK} {CX:CXT} {es:aC!} {e:Expr} {pos:Pos} {x:Str} {p:Pos} {M:Mir} {f:FA} (hr:Rm P w K mg P! k A) (hx:kF! X E) (ha:RA X E (e::es) f) [F:f1! P w K mg CX x n M] (q:y! ((X.A,aR!,X.w,X.K,e4!,eP!)=(A,P,w,K,mg,P!))) (hk:n<=k:=by first | decide | omega) (hg:y! eL!) (aG:b8! (x==cz!)) (he:y! (aq! (e::es)=dF!::if!)) (au:dU! es (·.1)):W! (c9! x p (e::es)) (zg M f):=by cases q;exact ztU F.h hr.r hx ha hk hg aG he au
theorem qG{x:Str}{st:Stmt}{N ps:al!}{k n:Nat}{fs:FS}(q:Fq K mg x st)(S:S! N ps st) (body:∀{f:Addr}{aj:Value}{A:Around}{outer:List Env}{s:Shared}{H:Hp}{E:XK},Rm P w K mg P! k (jV! x cV! f aj)->(z4E dA! P w K mg P! N x cV! f aj A an! s H E).calm=c!-> RSs (z4E dA! P w K mg P! N x cV! f aj A an! s H E) E hR! fs) (hb:rw! (mU!=a5!) (p5! (W.fnOf x x (jt st) hR! cV! X! kV aE pm an aj ct) (dy! us)=dH! lH!))(hn:y! (a5!=n)):f1! P w K mg dA! x (k+1) (kT N n fs):= let ⟨_,_,hm,F⟩:=q;⟨zmb F hm (F.binds hb) S hn λ_ _ _ _ _ _ hr hc=>body ⟨hr⟩ hc⟩
theorem zof{x:Str}{st:Stmt}{N ps:al!}{k n:Nat}{fs:FS}(q:Fq K mg x st)(S:S! N ps st) (body:∀{f:Addr}{aj:Value}{A:Around}{outer:List Env}{s:Shared}{H:Hp}{E:XK},jv k (jV! x cV! f aj)-> RSs (z4E CX0 P w K mg P! N x cV! f aj A an! s H E).nox E0 hR! fs) (hb:rw! (mU!=a5!) (p5! (W.fnOf x x (jt st) hR! cV! X! kV aE pm an aj ct) (dy! us)=dH! lH!))(hn:y! (a5!=n)):HsH P w K mg P! CX0 x (k+1) (Mof N n fs):= let ⟨_,_,hm,F⟩:=q;⟨zmJ F hm (F.binds hb) S hn λ_ _ _ _ _ _ hr=>body hr⟩
end
open PySem.W
end Dd
namespace Dd
open L2
section
variable {X:Cx}{E:XK}{e:Expr}{pos cD:Pos}
noncomputable def ztA(i:Nat)(f:FE):FS:=eu! (match ρ[i]? with
 | some (some (.int a))=>dV! (match d with | .int b=>hl! (jq! (e! (a+b))) | _=>.no)
 | _=>.no)
@[simp] theorem ztO(h:aj! ρ (e! a))(hf:aK!=T! eE!):ztA i f ρ s=hl! (jq! (e! (a+b))):=by simp only[ztA,h,hf,Rb]
end
open PySem.W
end Dd
namespace Dd
open L2
noncomputable def zlF:C!->bh! g!
 | []=>b! [] | .int i::r=>(zlF r).map (i::·) | _=>none
noncomputable def zqn:D->bh! g!
 | .tup ds=>zlF ds | _=>none
noncomputable def zc5:C!->bh! fC!
 | []=>b! [] | d::ds=>match zqn d,zc5 ds with | some n,some ns=>b! (n::ns) | _,_=>none
theorem zdB:∀ns:List Int,zlF h3!=b! ns
 | []=>rfl | i::r=>by simp[zlF,zdB r]
theorem zhp:∀{ds:List D}{ns:List Int},zlF ds=b! ns->ds=h3!
 | [],_,e=>by simp[zlF]at e;subst e;rfl | d::r,ns,e=>by cases d with
  | int i=>
   simp only[zlF,_ah]at e;obtain⟨a,h1,rfl⟩:=e;rw[zhp h1];rfl | _=>simp[zlF]at e
theorem ziu(ns:g!):zqn (p! h3!)=b! ns:=zdB ns
theorem znr(e:zqn d=b! ns):d=p! h3!:=by cases d with
 | tup ds=>rw[zhp e] | _=>simp[zqn]at e
theorem zbD:∀L:List (List Int),zc5 (n6! (λns=>p! h3!))=b! L
 | []=>rfl | n::L=>by simp only[_p,zc5,ziu,zbD L]
def AtN(H:Hp)(v:V)(ns:g!):j!:=∃b,v=q! b/\cI! (p! hD!)
theorem zk6(h:zqn d=b! ns)(dn:fN!):AtN H v ns:=by
 rw[znr h]at dn;obtain⟨a,vs,rfl,e,dd⟩:=dn;rw[(show ∀{ns:List Int}{vs:List V},pD! h3!->vs=hD! from by
  intro ns;induction ns with
  | nil=>exact id | cons i r ih=>
   intro vs h;obtain⟨v,r',rfl,h1,h2⟩:=h;rw[yq h1,ih h2];rfl) dd]at e;exact aA! a e
theorem zbW: ∀{ds:List D}{vs:List V}{L:List (List Int)},zc5 ds=b! L->iO!->pR! (λv ns=>AtN H v ns) vs L
 | [],_,_,h,dn=>by simp only[zc5,_y]at h;subst dn;subst h;exact cn! | d::ds,_,_,h,dn=>by
  obtain⟨v,vs,rfl,h1,h2⟩:=dn;simp only[zc5]at h;split at h
  ·rename_i n ns e1 e2;cases h;exact ep! (zk6 e1 h1) (zbW e2 h2)
  ·cases h
end Dd
namespace Dd
open L2
noncomputable def lexN:g!->eH! g!
 | [],[]=>false | [],_::_=>true | _::_,[]=>false | x::a,y::b=>af! x y (gw! a b) (dO! x y)
inductive jF:cR!->g!->j! | nil:jF [] [] | cons {i t vs ns}:jF vs ns->jF (bJ! i::vs) (i::ns)
theorem jF.of_vals:∀{ns:List Int}{us:List Value},j1! hD!->jF us ns
 | [],_,.nil=>cn! | _::_,_,.cons ⟨_,rfl⟩ r=>.cons (jF.of_vals r)
theorem jF.length:∀{us ns},jF us ns->mU!=e7!
 | _,_,.nil=>rfl | _,_,.cons r=>by simp[r.length]
end Dd
namespace Dd
open L2
section
variable {X:Cx}{E:XK}
theorem AtN.tuple{O:L2.St} (I:K!) (a:AtN H v ns)(r:wA v u):∃b af,v=q! b/\u=q! b/\s.heap.IsTuple b af/\jF oT! ns:=by
 obtain⟨b,rfl,e⟩:=a;cases (show u=k2! b from r);obtain⟨af,r,pl,hz⟩:=k8! (w! (w! e));exact⟨b,e2!,rfl,rfl,pl,jF.of_vals (by exact r)⟩
end
end Dd
namespace L2
noncomputable def n3(a b c:Int):Nat:=ai! (a<b) (eQ! ((b-a-1) / c+1)) 0
end L2
namespace Dd
open L2
open PySem.W
theorem kr{α β:cd!}{n:Nat}{lt:Nat->kM!}(f:α->KasT β):∀t:KasT α,dT! n (t.bind f)=z! (dT! n t) (λa=>dT! n (f a))
 | .ret a=>rfl | .ask i j k=>by
  show (h1! (i<n/\j<n) (dT! n (z! (k (lt i j)) f)))=z! (h1! (i<n/\j<n) (dT! n (k (lt i j)))) _;split;·exact kr f _
  ·rfl
section
variable {N:Nat}{lt:Nat->kM!}(aD:∀i j,i<N->j<N->i≠j->lt j i=! lt i j)(tr:∀i j k,c7! i j->c7! j k->c7! i k)
noncomputable abbrev at0(p:fe!)(i:Nat):Nat:=p.getD i 0
structure PmN(N:Nat)(p:fe!):j! where pm:qs! (iX! N)
theorem PmN.size{p:fe!}(h:PmN N p):n7!=N:=by have:=h.pm.length_eq;simpa using this
theorem PmN.bd{p:fe!}(h:PmN N p){i:Nat}(hi:i<N):av! i<N:=by
 have hs:=h.size;have:av! i∈p.toList:=by
  rw[at0,Array.getD,ql! (by lia)];exact Array.getElem_mem_toList _
 exact _aJ.mp (h.pm.mem_iff.mp i7!)
theorem PmN.ne{p:fe!} (h:PmN N p) {i j:Nat} (hi:i<N) (hj:j<N) (aJ:i≠j):av! i≠av! j:=λz=>by
 have hs:=h.size;have nd:p.toList.Nodup:=h.pm.nodup_iff.mpr List.nodup_range;rw[at0,at0,Array.getD,Array.getD,ql! (by lia),ql! (by lia)]at z;have:=(_aY (i:=i) (j:=j) (h₀:=by simpa using (by lia:i<n7!)) (h₁:=by simpa using (by lia:j<n7!)) nd).mp (by simpa using z);exact aJ i7!
theorem PmN.of{p q:fe!}(h:PmN N p)(e:q.Perm p):PmN N q:=⟨bL! (Array.perm_iff_toList_perm.mp e) h.pm⟩
def Asc(lt:Nat->kM!)(p:fe!)(k:Nat):j!:=∀i j,i<j->j<k->c7! (av! i) (av! j)
def Des(lt:Nat->kM!)(p:fe!)(k:Nat):j!:=∀i j,i<j->j<k->c7! (av! j) (av! i)
include tr
theorem Asc.more{p:fe!}{k:Nat}(h:Asc lt p k)(h1:1<=k)(e:c7! (av! (k-1)) (av! k)):Asc lt p (k+1):=λi j aJ hj=>by
 by_cases q:j=k
 ·subst q;by_cases q2:i=j-1;·subst q2;exact e
  ·exact tr _ _ _ (h i (j-1) (by lia) (by lia)) e
 ·exact h i j aJ (by lia)
theorem Des.more{p:fe!}{k:Nat}(h:Des lt p k)(h1:1<=k)(e:c7! (av! k) (av! (k-1))):Des lt p (k+1):=λi j aJ hj=>by
 by_cases q:j=k
 ·subst q;by_cases q2:i=j-1;·subst q2;exact e
  ·exact tr _ _ _ e (h i (j-1) (by lia) (by lia))
 ·exact h i j aJ (by lia)
include aD
theorem z9D{p:fe!}(P:PmN N p):∀(f n0:Nat),1<=n0->n0+f<=N->Asc lt p n0->∃m,dT! N (kas_asc p f n0)=b! m/\n0<=m/\m<=n0+f/\Asc lt p m/\(m<n0+f->c7! (av! m) (av! (m-1)))
 | 0,n0,h1,hN,ha=>⟨n0,rfl,ah!,ah!,ha,λz=>oP! (by lia)⟩ | f+1,n0,h1,hN,ha=>by
  have b1:=P.bd (i:=n0) (by lia);have b2:=P.bd (i:=n0-1) (by lia);by_cases c:c7! iM! (av! (n0-1))
  ·refine⟨n0,?_,ah!,by lia,ha,λ_=>c⟩;show (h1! (iM!<N/\av! (n0-1)<N) (dT! N (aG! (lt iM! (av! (n0-1))) (KasT.ret n0) (kas_asc p f (n0+1)))))=_;rw[b7! b1 b2,_h c];rfl
  ·have e:c7! (av! (n0-1)) iM!:=by
    rw[aD _ _ b1 b2 (P.ne (by lia) (by lia) (by lia))];simpa using c
   obtain⟨m,e1,e2,e3,e4,e5⟩:=z9D P f (n0+1) (by lia) (by lia) (ha.more tr h1 e);refine⟨m,?_,by lia,by lia,e4,λz=>e5 (by lia)⟩;show (h1! (iM!<N/\av! (n0-1)<N) (dT! N (aG! (lt iM! (av! (n0-1))) (KasT.ret n0) (kas_asc p f (n0+1)))))=_;rw[b7! b1 b2,_q c];exact e1
theorem zdc{p:fe!}(P:PmN N p):∀(f n0:Nat),1<=n0->n0+f<=N->Des lt p n0->∃m,dT! N (kas_desc f p n0 0)=b! (p,m,0)/\n0<=m/\m<=n0+f/\Des lt p m
 | 0,n0,h1,hN,ha=>⟨n0,rfl,ah!,ah!,ha⟩ | f+1,n0,h1,hN,ha=>by
  have b1:=P.bd (i:=n0) (by lia);have b2:=P.bd (i:=n0-1) (by lia);by_cases c:c7! iM! (av! (n0-1))
  ·obtain⟨m,e1,e2,e3,e4⟩:=zdc P f (n0+1) (by lia) (by lia) (ha.more tr h1 c);refine⟨m,?_,by lia,by lia,e4⟩;show (h1! (iM!<N/\av! (n0-1)<N) (dT! N (aG! (lt iM! (av! (n0-1))) (ai! (0 > 0) (kas_desc f (kas_rev p (n0-(0+1)) n0) (n0+1) 0) (kas_desc f p (n0+1) 0)) _)))=_;rw[b7! b1 b2,_h c,_q (by lia)];exact e1
  ·have e:c7! (av! (n0-1)) iM!:=by
    rw[aD _ _ b1 b2 (P.ne (by lia) (by lia) (by lia))];simpa using c
   refine⟨n0,?_,ah!,by lia,ha⟩;show (h1! (iM!<N/\av! (n0-1)<N) (dT! N (aG! (lt iM! (av! (n0-1))) _ (KasT.ask (av! (n0-1)) iM! λd=>aG! d (.ret (p,n0,0)) (kas_desc f p (n0+1) (0+1))))))=_;rw[b7! b1 b2,_q c];show (h1! (av! (n0-1)<N/\iM!<N) (dT! N (aG! (lt (av! (n0-1)) iM!) (.ret (p,n0,0)) (kas_desc f p (n0+1) (0+1)))))=_;rw[b7! b2 b1,_h e];rfl
omit aD tr in
theorem zld{p:fe!} {m i:Nat} (hm:m<=n7!) (hi:i<m):at0 (kas_rev p 0 m) i=av! (m-1-i):=by
 have e:=getElem?_mirror_all (xs:=p) (i:=0) (j:=m) hm i;rw[b7! gM! hi]at e;simp only[at0,Array.getD_eq_getD_getElem?,kas_rev];rw[e];simp
theorem zfX{p:fe!}(P:PmN N p)(hN:1<=N):∃m p',dT! N (qt! N p)=b! (m,p')/\PmN N p'/\Asc lt p' m/\1<=m/\m<=N:=by
 obtain⟨m,e1,e2,e3,e4,e5⟩:=z9D aD tr P (N-1) 1 ah! (by lia) (λi j h1 h2=>by lia);unfold kas_count;rw[kr,e1];simp only[_L];by_cases q:m=N
 ·rw[_h (by simpa using q)];exact⟨m,p,rfl,P,e4,e2,by lia⟩
 ·rw[_q (by simpa using q)];by_cases q1:m > 1
  ·rw[_h q1];have b1:=P.bd (i:=0) (by lia);have b2:=P.bd (i:=m-1) (by lia);have c:=e4 0 (m-1) (by lia) (by lia);refine⟨m,p,?_,P,e4,e2,by lia⟩;show (h1! (av! 0<N/\av! (m-1)<N) (dT! N (aG! (lt (av! 0) (av! (m-1))) (KasT.ret (m,p)) _)))=_;rw[b7! b1 b2,_h c];rfl
  ·rw[_q q1];have m1:m=1:=by lia
   subst m1;have c:=e5 (by lia);obtain⟨k,f1,f2,f3,f4⟩:=zdc aD tr P (N-(1+1)) (1+1) (by lia) (by lia) (λi j h1 h2=>by
    have:i=0:=by lia
    have:j=1:=by lia
    subst i;subst j;exact c);unfold kas_descPart;rw[kr,f1];simp only[_L];rw[_q (by lia)];unfold kas_tail3;have P2:PmN N (kas_rev p 0 k):=P.of (mirror_perm _ _ _ _);have sz:=P.size;have iE:Asc lt (kas_rev p 0 k) k:=λi j h1 h2=>by
    rw[zld (by lia) (by lia),zld (by lia) (by lia)];exact f4 _ _ (by lia) (by lia)
   obtain⟨m2,g1,g2,g3,g4,_⟩:=z9D aD tr P2 (N-k) k (by lia) (by lia) iE;rw[kr,g1];exact⟨m2,kas_rev p 0 k,rfl,P2,g4,by lia,by lia⟩
theorem z5u{p:fe!}(P:PmN N p){k:Nat}(hk:k<N)(ha:Asc lt p k):∀(f l r:Nat),l<=r->r<=k->r-l<=f->(∀i,i<l->c7! (av! i) (av! k))->(∀i,r<=i->i<k->c7! (av! k) (av! i))-> ∃m,dT! N (kas_place p k f l r)=b! m/\m<=k/\(∀i,i<m->c7! (av! i) (av! k))/\∀i,m<=i->i<k->c7! (av! k) (av! i)
 | 0,l,r,h1,h2,h3,hl,hr=>⟨l,rfl,by lia,hl,λi z1 z2=>hr i (by lia) z2⟩ | f+1,l,r,h1,h2,h3,hl,hr=>by
  by_cases q:l ≥ r
  ·refine⟨l,?_,by lia,hl,λi z1 z2=>hr i (by lia) z2⟩;rw[kas_place,_h q];rfl
  ·have b1:=P.bd (i:=k) hk;have b2:=P.bd (i:=(l+r) / 2) (by lia);by_cases c:c7! (av! k) (av! ((l+r) / 2))
   ·obtain⟨m,e1,e2,e3,e4⟩:=z5u P hk ha f l ((l+r) / 2) (by lia) (by lia) (by lia) hl (λi z1 z2=>by
     by_cases z:i=(l+r) / 2;·subst z;exact c
     ·exact tr _ _ _ c (ha _ _ (by lia) z2));refine⟨m,?_,e2,e3,e4⟩;rw[kas_place,_q q];show (h1! (av! k<N/\av! ((l+r) / 2)<N) (dT! N (aG! (lt (av! k) (av! ((l+r) / 2))) (kas_place p k f l ((l+r) / 2)) _)))=_;rw[b7! b1 b2,_h c];exact e1
   ·have e:c7! (av! ((l+r) / 2)) (av! k):=by
     rw[aD _ _ b1 b2 (P.ne hk (by lia) (by lia))];simpa using c
    obtain⟨m,e1,e2,e3,e4⟩:=z5u P hk ha f ((l+r) / 2+1) r (by lia) h2 (by lia) (λi z1=>by
     by_cases z:i=(l+r) / 2;·subst z;exact e
     ·exact tr _ _ _ (ha _ _ (by lia) (by lia)) e) hr;refine⟨m,?_,e2,e3,e4⟩;rw[kas_place,_q q];show (h1! (av! k<N/\av! ((l+r) / 2)<N) (dT! N (aG! (lt (av! k) (av! ((l+r) / 2))) _ (kas_place p k f ((l+r) / 2+1) r))))=_;rw[b7! b1 b2,_q c];exact e1
omit aD tr in
theorem zkq{p:fe!} {k l i:Nat} (hk:k<n7!) (hl:l<=k) (hi:i<=k):at0 (bubble p k (k-l)) i=af! i l (av! k) (ai! (l<i) (av! (i-1)) (av! i)):=by
 have e:=getElem?_bubble (xs:=p) (src:=k) hk (k-l) (by lia) i;simp only[at0,Array.getD_eq_getD_getElem?];rw[e];by_cases q:i=l;·rw[_h (by lia),_h q]
 ·rw[_q (by lia),_q q];by_cases q2:l<i;·rw[_h (by lia),_h q2]
  ·rw[_q (by lia),_q q2]
theorem zfP:∀(f k:Nat)(p:Array Nat),PmN N p->k+f=N->Asc lt p k->∃p',dT! N (kas_bin f p k)=b! p'/\PmN N p'/\Asc lt p' N
 | 0,k,p,P,hk,ha=>mq! p P (by rw[<- hk];exact ha) | f+1,k,p,P,hk,ha=>by
  obtain⟨l,e1,e2,e3,e4⟩:=z5u aD tr P (k:=k) (by lia) ha k 0 k gM! ah! (by lia) (λi z=>oP! (by lia)) (λi z1 z2=>cN! z1 (by lia));have sz:=P.size;have P2:PmN N (bubble p k (k-l)):=P.of (bubble_perm _ _ _);have iE:Asc lt (bubble p k (k-l)) (k+1):=λi j h1 h2=>by
   rw[zkq (by lia) e2 (by lia),zkq (by lia) e2 (by lia)];by_cases qi:i=l
   ·rw[_h qi,_q (by lia),_h (by lia)];exact e4 (j-1) (by lia) (by lia)
   ·rw [_q qi];by_cases qj:j=l
    ·rw[_h qj,_q (by lia)];exact e3 i (by lia)
    ·rw[_q qj];by_cases q1:l<i
     ·rw[_h q1,_h (by lia)];exact ha _ _ (by lia) (by lia)
     ·rw[_q q1];by_cases q2:l<j
      ·rw[_h q2];by_cases q3:j-1=i;·lia
       ·exact ha _ _ (by lia) (by lia)
      ·rw[_q q2];exact ha _ _ h1 (by lia)
  obtain⟨p',g1,g2,g3⟩:=zfP f (k+1) _ P2 (by lia) iE;refine⟨p',?_,g2,g3⟩;rw[kas_bin,kr,e1];exact g1
theorem ziM(hN:1<=N):∃p,dT! N (kas_sort N)=b! p/\qs! (iX! N)/\ry! (c7! i j):=by
 have P:PmN N (fZ! N):=⟨by rfl⟩;obtain⟨m,p,e1,e2,e3,e4,e5⟩:=zfX aD tr P hN;have fin:∀p:Array Nat,PmN N p->Asc lt p N->ry! (c7! i j):=λp P ha=>by
  rw[List.pairwise_iff_getElem];intro i j hi hj aJ;have sz:=P.size;have gD:j<n7!:=by simpa using hj
  have:=ha i j aJ (by lia);rw[at0,at0,Array.getD,Array.getD,ql! (by lia),ql! gD]at this;simpa using this
 unfold kas_sort;rw[kr,e1];simp only[_L];by_cases q:m<N
 ·rw[_h q];have hm:max m 1=m:=by lia
  rw[hm];obtain⟨p',g1,g2,g3⟩:=zfP aD tr (N-m) m p e2 (by lia) e3;exact⟨p',g1,g2.pm,fin p' g2 g3⟩
 ·rw[_q q];have:m=N:=by lia
  subst this;exact mq! p e2.pm (fin p e2 e3)
end
noncomputable def zoI(fin:Bool):g!->eH! g!
 | x::a,y::b=>af! x y (zoI fin a b) (dO! x y) | _,_=>fin
theorem zhP(f:Bool) (x y:Int) (a b:g!):zoI f (x::a) (y::b)=af! x y (zoI f a b) (dO! x y):=V!
theorem zlr:∀ns ms:List Int,zoI (dO! e7! ms.length) ns ms=gw! ns ms
 | [],[]=>by rfl | [],_::_=>by rfl | _::_,[]=>by rfl | x::a,y::b=>by simp only[zhP,lexN,_j,Nat.add_lt_add_iff_right,(zlr a b)]
def TupAt(h:Heap)(v:Value)(ns:g!):j!:=∃a o n us,v=ad!/\cx! a/\fV!=du!/\hU!=.seq us n/\jF us.toList ns/\a4! ns
inductive vJ (h:Heap):cR!->fC!->j! | nil:vJ h [] [] | cons {v p vs ps}:TupAt h v p->vJ h vs ps->vJ h (v::vs) (p::ps)
theorem vJ.length: ∀{vs ps},vJ h vs ps->mg!
 | _,_,.nil=>rfl | _,_,.cons _ r=>by simp[r.length]
theorem vJ.at_: ∀{vs ps},vJ h vs ps->∀i,i<a5!->TupAt h (vs.getD i X!) (f8! [])
 | _,_,.nil,i,hi=>by cases hi | _,_,.cons p r,0,_=>by simpa using p | _,_,.cons p r,i+1,hi=>by simpa using r.at_ i (by simpa using hi)
theorem vJ.mono(k:bz! (cx! b->dn! b)):∀{vs ps},vJ h vs ps->vJ h' vs ps
 | _,_,.nil=>cn! | _,_,.cons ⟨a,o,n,us,e,g,c,d,i,z⟩ r=>ep! ⟨a,o,n,us,e,k _ _ g,c,d,i,z⟩ (r.mono k)
theorem vJ.tups: ∀{vs ps},vJ h vs ps->∃fs,KatTups h vs fs/\fs.length=a5!/\∀v∈fs,∃i t,v=bJ! i
 | _,_,.nil=>eS! [] KatTups.nil (lc! (by cases hv)) | _,_,.cons ⟨a,o,n,us,e,g,c,d,i,z⟩ r=>by
  obtain⟨fs,k,l,m⟩:=r.tups;subst e;obtain⟨ul⟩:=us;cases i with
  | nil=>exact f6! z | @cons x t ws ns i'=>
   refine⟨bJ! x::fs,KatTups.cons g c d rfl k,by simp[l],lc! ?_⟩;rcases d2! hv with rfl | hv;·exact b1! _
   ·exact m v hv
section
variable {prog:Program}{w:World}{A:Around}{E:bP!}{s:Shared}
theorem zdv: ∀{xs ys:List Value}{ns ms:List Int}(i:Nat),jF xs ns->jF ys ms->C (zoI fin ns ms) s->KatLex mT! w A c! fin C (xs.zip ys) i s
 | _,_,_,_,i,.nil,_,h=>by
  refine kat_nil ?_;exact h | _,_,_,_,i,.cons _,.nil,h=>by
  refine kat_nil ?_;exact h | _,_,_,_,i,.cons (i:=x) r,.cons (i:=y) r',h=>by
  refine kat_cons (_b4 (kat_go (λe=>kat_yes (zdv (i+1) r r' ?_)) λe=>kat_no ?_));·simpa[zhP,(by simpa using e)] using h
  ·have h':C (dO! x y) s:=by simpa[zhP,(by simpa using e)] using h
   cases i with
   | zero=> exact oneLt_int h' | succ i=> exact kat_one _ _ (PyProof.Rows.lt_int h')
theorem zmL(hv:TupAt G! v p)(hu:TupAt G! u q)(h:C (gw! p q) s):ct! w A (keyLt' lz! v u) C E s:=by
 obtain⟨a,o,n,us,rfl,g,c,d,i,_⟩:=hv;obtain⟨b,o',n',om,rfl,g',c',d',i',_⟩:=hu;refine kat_lt g d g' d' (zdv 0 i i' ?_);rw[(show dO! us.size om.size=dO! p.length q.length from by
  have:=i.length;have:=i'.length;simp only[_aW]at *;simp[*]),zlr];exact h
theorem zgX(hp:vJ G! vs ps)(h0:0<a5!)(h:Q lz! s):ct! w A (keyKind' es!) Q E s:=by
 obtain⟨fs,k,l,m⟩:=hp.tups;refine kat_kind (T:=aF! ee!) k (by rw[l];exact h0) (lc! ?_) rfl h;obtain⟨i,t,rfl⟩:=m v hv;exact Looks.of_pure rfl
theorem znH{G:fe!->eh!}(h2:2<=n) (hG:∀p' ay s',p'.size=n->o9! ay=p'.map (qr! it)->sr!=a!->G p' s'->Q () ay s')(h:(qt! n (fZ! n)).kasWp (kas_cmp mT! w A κ it) (λr s'=>r.1=n/\G r.2 s') s): kasC hT! A E sortRuns' Q (qu! κ it (fZ! n)) s:=by
 obtain⟨r,rfl⟩:∃r,n=r+2:=⟨n-2,by lia⟩;have iF:(fZ! (r+2)).size=r+2:=by simp
 rw[sortRuns'_eq];refine pb! (kasC_get ?_);dsimp only;have bg:(o9! (qu! κ it (fZ! (r+2)))).size=r+2:=by
  show ((fZ! (r+2)).map (qr! it)).size=_;rw[Array.size_map,iF]
 have iG:∀f m c,m+c<=r+2->1<=m->minRun' f m c<=r+2:=by
  intro f;induction f with
  | zero=>intro m c h _;exact h | succ f ih=>
   intro m c h h1;rw[minRun'_succ];split;·exact h
   ·exact ih _ _ (by lia) (by lia)
 have iG:=iG (r+2) (r+2) 0 ah! (by lia);simp only[bg];generalize minRun' (r+2) (r+2) 0=mr at iG;refine pb! (kasC_range ?_);show kasC _ _ _ (forIn (0::1::n2! 2 r) _ _) _ _ _;refine kasC_cons ?_;dsimp only;rw[_q (by lia)];simp only[_ap];refine pb! (kas_count_ (by lia) (by rw[iF];exact ah!) (λm p' s' lQ cr hp hg=>?_) h);have dR := hp.trans iF;obtain⟨em,oo⟩:=hg;have oq := em;subst oq;dsimp only;rw[_q (by lia)];refine pb! (kasC_get ?_);rw[show (pendingOf (qu! κ it p')).back? = a! from rfl];dsimp only;refine pb! (kasC_modify (kasC_pure ?_));show kasC _ _ _ (forIn (1::n2! 2 r) _ _) _ _ _;refine kasC_cons ?_;dsimp only;rw[_h ah!];refine kasC_pure ?_;dsimp only;refine pb! (kasC_range ?_);show kasC _ _ _ (forIn (0::1::n2! 2 r) _ _) _ _ _;refine kasC_cons ?_;refine pb! (kasC_get ?_);rw[_h (show (pendingOf (setPending (qu! κ it p') (cY! (pendingOf (qu! κ it p')) (0,r+2,0)))).size<=1 from _k 1)];refine kasC_pure ?_;dsimp only;exact kasC_pure (hG p' _ _ dR rfl rfl oo)
def zpn(ps:fC!)(p:fe!):j!:= (a5!<2/\p=fZ! a5!)\/ (2<=a5!/\a5!<64/\q9! (λi j=>gw! (f8! []) (oK! [])) rA!=b! p)\/ (2<=a5!/\q9! (λi j=>gw! (f8! []) (oK! [])) (qt! a5! (fZ! a5!))=b! (a5!,p))
theorem ziO{Q:SortSt->eh!} (hp:vJ G! vs ps) (h2:2<=a5!) (hP:zpn ps p) (h:∀ay,n7!=dq!->o9! ay=p.map (qr! jM!)->sr!=a!->Q ay s): ct! w A ((sortRuns').run (SortSt.mk' lz! jM! #[] 7 a!)) (λr s'=>Q r.2 s') E s:=by
 have bM:=hp.length;have eA:∀i j (C:Bool->Shared->Prop),i<a5!->j<a5!->C (gw! (f8! []) (oK! [])) s->kas_ask mT! w A lz! vs i j C s:=λi j C hi hj hC=>zmL (hp.at_ i hi) (hp.at_ j hj) hC;rcases hP with⟨z,_⟩ | ⟨_,fN,e⟩ | ⟨_,e⟩;·lia
 ·refine kat_run (G:=λq s'=>q=p/\s'=s) rfl (by lia) (by lia) (λq ay s' a1 a2 a3 a4=>?_) (zef eA _ p (by rw[bM];exact e) (ch! rfl));obtain⟨rfl,rfl⟩:=a4;exact h ay a1 a2 a3
 ·have hc:(qt! dq! (fZ! dq!)).kasWp (kas_cmp mT! w A lz! jM!) (λr s'=>r.1=dq!/\(r.2=p/\s'=s)) s:=by
   rw[<- kat_ask_eq rfl];refine zef eA _ (a5!,p) (by rw[bM];exact e) (aA! bM.symm rfl)
  have run:=znH (E:=E) (Q:=λ_ ay s'=>Q ay s') (G:=λq s'=>q=p/\s'=s) (by lia) (λq ay s' a1 a2 a3 a4=>by obtain⟨rfl,rfl⟩:=a4;exact h ay a1 a2 a3) hc;have ou:SortSt.mk' lz! jM! #[] 7 a!=qu! lz! jM! (fZ! dq!):=by
   have e:=kas_range jM!;rw[show (jM!).size=dq! by simp]at e;show SortSt.mk' lz! jM! #[] 7 a!=SortSt.mk' lz! ((fZ! dq!).map (qr! jM!)) #[] 7 a!;rw[e]
  rw[ou];exact run
theorem z9H(ho:fx! a (me! n)) (hp:∀h',(bz! (b≠a->da! b->dn! b))->vJ h' vs ps) (ai:dq!<=aW!) (hP:zpn ps p) (h:P (.done (.ret X!)) {s with heap:=sortedHeap G! a vs (z7k vs p)}):ct! w A (Builtin.«list.sort» (dy! [ad!])) P E s:=by
 have ha := _r ho;have bM := r! (hp G! λ_ _ _ e=>e);obtain⟨e1,g1⟩:∃e1,eK! (lr! a (λ_=>(#[]:cq!))) a (kx! #[] e1):=gc! (get?_update_seq ho λ_=>#[]);have g2:eK! (cY! (cY! (lr! a (λ_=>(#[]:cq!))) (oI! 0)) (kx! #[] 0)) a (kx! #[] e1):=_g _ (_g _ g1);have eB:vJ (cY! (cY! (lr! a (λ_=>(#[]:cq!))) (oI! 0)) (kx! #[] 0)) vs ps:=hp _ (ki! (_g _ (_g _ (bL! ((_bF G! a (sA! (λ_=>(#[]:cq!)))).2 b hb) e))));rw[list_sort_plain];refine _a (listItems_at ho rfl (_a (_cd ho rfl (_a (_cX g1 rfl (_a (_cE (_a (_da (_aR ?_) gM!)) ai)))) (by rw[_s];exact ai) gM!)));dsimp only;by_cases bS:vs.toArray.size<2
 ·rw[_h bS,_h bS];have small:dq!<2:=by simpa using bS
  have ep:p=fZ! a5!:=by
   rcases hP with⟨_,z⟩ | ⟨z,_⟩ | ⟨z,_⟩;·exact z
   ·lia
   ·lia
  have eo:z7k vs p=es!:=by
   rw[ep,<- bM];unfold z7k;congr 1;apply _aQ;·simp
   ·intro i h1 h2;simp[h2]
  refine _a (_m (_a (_m ?_)));dsimp only;have fO:(o9! (SortSt.mk' general' jM! #[] 7 a!)).map (·.2)=es!:=by
   show ((jM!).map (·.2))=_;apply Array.ext_getElem?;intro i;by_cases hi:i<dq!<;>simp[hi]
  rw[fO];refine _a (_cX g2 rfl (_a (_cd g2 rfl ?_ gM! (by rw[_s];exact _cY ai))));simp only[_cZ,_a0];rw[eo]at h;exact _m h
 ·rw[_q bS,_q bS];have b2:2<=a5!:=by rw[<- bM];simpa using bS
  refine _a (zgX eB (by lia) ?_);refine _a (_Z (ziO (Q:=λay s'=>n7!=dq!/\o9! ay=p.map (qr! jM!)/\sr!=a!/\s'={s with heap:=cY! (cY! (lr! a (λ_=>(#[]:cq!))) (oI! 0)) (kx! #[] 0)}) eB b2 hP λay a1 a2 a3=>⟨a1,a2,a3,rfl⟩) ?_ λ_ _ z=>z);rintro⟨⟨⟩,ay⟩ s' ⟨hq,iC,hf,rfl⟩;dsimp only;have fO:=kat_snds rfl iC;rw[fO,hf];refine _a (_cX g2 rfl (_a (_cd g2 rfl ?_ gM! (by rw[_s,_W,_aW,hq];exact _cY ai))));simp only[_cZ,_a0];exact _m h
theorem zeW(hl:s.heap.IsList l es!) (hp:vJ G! vs ps) (ai:dq!<=aW!) (hP:zpn ps p) (h:Q (q! dD!) {s with heap:=so! vs (z7k vs p)}): ct! w A (pJ! k0! [ei!]) Q E s:=by
 refine Calls.call_function_entry kind_sorted plain_sorted entry_sorted (args_sorted1 _) ?_;unfold Builtin.«sorted»;refine _a (_m (_a (collect_list hl (_a (_da ?_ (by simpa using ai))) (by simpa using ai))));have sz:d1! (oB! (ow! #[] 0) (· ++ es!))=dD!:=by rw[Heap.size_update,size_push']
 have g:eK! (cY! (oB! (ow! #[] 0) (· ++ es!)) (me! 0)) dD! (me! 0):=by
  rw[<- sz];exact gN!
 have keep:bz! (da! b->eK! (cY! (oB! (ow! #[] 0) (· ++ es!)) (me! 0)) b o/\b≠dD!):=λb o q=>by
  have lt := _r q;refine⟨?_,_D (_aU lt)⟩;rw[_b0 _ _ _ (by rw[sz];exact _D (_aU lt)),Heap.get?_update_ne _ _ _ _ (_D lt),_b0 _ _ _ (_D lt)];exact q
 show ct! w _ _ _ _ ({s with heap:=cY! (oB! (ow! #[] 0) (· ++ es!)) (me! 0)});rw[sz];exact _a (_aR (_at slot_list_sort (b1! g) entry_list_sort (z9H g (λh' k=>hp.mono λb o q=>k b o (keep b o q).2 (keep b o q).1) ai hP (aA! _ (_m (bG! rfl h)))) (args_list_sort _)))
end
section
variable {X:Cx}{E:XK}
def zkz(K:W.Frag):aU!->Hp->ej!:=λxs H Q=>∃(l:Addr)(ys:List V)(ps:List (List Int))(p:Array Nat),xs=[ei!]/\SqL K H l ys/\pR! (λv ns=>AtN H v ns) ys ps/\(∀n∈ps,a4! n)/\zpn ps p/\ (∀i∈p.toList,i<dr!)/\rN! dr!/\∀r,H r=a!->Q (q! r) (hE! r (ab! (jP! (rd! i))))
theorem zho{O:L2.St} (I:K!):∀{ys:List V}{af:List Value}{ps:List (List Int)},hr! ys->pR! (λv ns=>AtN H v ns) ys ps->(∀n∈ps,a4! n)->vJ G! af ps
 | [],_,_,.nil,.nil,_=>cn! | y::ys,_,_,.cons r rs,.cons a p,hn=>by
  refine ep! ?_ (zho I rs p λn hm=>hn n (.tail _ hm));obtain⟨b,af,rfl,rfl,⟨o,g,c,k,d⟩,z⟩:=a.tuple I r;exact⟨b,o,k,af,rfl,g,c,d,z,hn _ ju!⟩
theorem zeA:je! X k0! (zkz X.K):=by
 intro ae s O H xs us Q I r h;obtain⟨l,ys,ps,p,rfl,hq,hp,hn,hP,cz,au,q⟩:=h;obtain⟨u,rfl,rx⟩:=kJ!;cases rx;obtain⟨af,r',pl,hz⟩:=lG!;have ao:=r'.length;refine zeW (ps:=ps) (p:=p) pl.isList (zho I r' hp hn) (by lia) hP ?_;obtain⟨c',e⟩:=sortedAll_at G! af (z7k af p);refine⟨q! dD!,_,I.laid (t':=s.toks) (λb o z=>sortedAll_old z) (_cW _) (show jG aR! X.w _ (so! af (z7k af p)) _ (ab! (jP! (rd! i))) from⟨?_,_,c',z8J r' p.toList cz,e⟩),rfl,q _ (rY! (_cW _))⟩;rw[_W,au];exact hz
noncomputable def zpZ(L:fC!):bh! fe!:= ai! (ay!<2) (b! (fZ! ay!)) (ai! (ay!<64) (kev ay! (λi j=>gw! (cp! i) (cp! j)) (kas_sort ay!)) (match kev ay! (λi j=>gw! (cp! i) (cp! j)) (qt! ay! (fZ! ay!)) with
  | some (m,p)=>h1! (m=ay!) (b! p) | none=>none))
theorem zgj(h:zpZ L=b! p):zpn L p:=by
 unfold zpZ at h;split at h;·rename_i q;exact w! ⟨q,(_I h).symm⟩
 ·split at h;·rename_i q1 q2;exact R! (w! ⟨by lia,q2,h⟩)
  ·split at h
   ·rename_i m q e;split at h
    ·rename_i em;cases h;subst em;exact h5! ⟨by lia,e⟩
    ·cases h
   ·cases h
noncomputable def z7L(s:Sto)(d:D):bh! C!:=match lM! d with
 | some xs=>match zc5 xs with
  | some L=>match zpZ L with
   | some p=>h1! (L.all (λn=>!n.isEmpty)=c!/\p.toList.all (λi=>dO! i v!)=c!/\rN! v!) (b! (jP! (xs.getD i at!))) | none=>none
  | none=>none
 | none=>none
noncomputable def zrq:Mir:=λds s=>match ds with
 | [d]=>match z7L s d with | some ys=>aa! (c0! ys) (gG! (s++[ys])) | none=>.no
 | _=>.no
noncomputable def zaq:Mir:=λds s=>match ds with
 | [d]=>match z7L s d with | some ys=>k! ib! | none=>.no
 | _=>.no
theorem znb(r:Rep B! H Y s)(dn:Den B! H Y d v)(e:z7L s d=b! ys)(q:∀vs,yj B! H Y ys vs->∀a,H a=a!->Q ad! (gP! ci!)):zkz X.K [v] H Q:=by
 unfold z7L at e;split at e
 ·rename_i xs ex;split at e
  ·rename_i L eL;split at e
   ·rename_i p ep;split at e
    ·rename_i hp;cases e;obtain⟨a,ws,rfl,q1,q2⟩:=yn r ex dn;have hl:=q2.length;have cz:∀i∈p.toList,i<v!:=e8! (by simpa using _S.mp hp.2.1 i hi)
     exact⟨a,ws,L,p,rfl,w! q1,zbW eL q2,(λn hn z=>by have:=_S.mp hp.1 n hn;rw[z]at this;cases this),zgj ep,e8! (by have:=cz i hi;lia),by rw[hp.2.2];lia,q _ (z9w q2 _ cz)⟩
    ·cases e
   ·cases e
  ·cases e
 ·cases e
theorem znA:∃r,je! X k0! r/\z1I X E r zaq:=jN! zeA.freeze (by
 unfold zaq at h;split at h
 ·rename_i d;split at h
  ·rename_i ys e;obtain⟨v,rfl,dn⟩:=kU!;exact znb r dn e λvs dv=>z04 r h dv
  ·exact h.elim
 ·exact h.elim)
end
end Dd
namespace Pg
open L2 Dd
noncomputable def z2p:mG!:=[("next",mM!),("least",mN!),(iT!,mO!),(fT!,mP!)]
@[simp] noncomputable def zbv:FS:=(xc (zc2 (eIs ee! n!) (zqH (eIs fs! n!))))
noncomputable def zcq:FS:=zbv
noncomputable def z11:Mir:=cL! c3! zcq
@[simp] noncomputable def zbO:FS:=(xc (zc2 (rk! n!) (zeo dLe dLe (O! 2) fj! (O! 4))))
noncomputable def qB:FS:=zbO
noncomputable def yS:Mir:=cL! c3! qB
@[simp] noncomputable def z7m:FS:=(xc (eC dg!))
@[simp] noncomputable def z7u:FS:=(bm! (fOr (fE! (rk! n!)) (hc! fj! o!)) z7m)
@[simp] noncomputable def z1w:FS:=(xc (a0! zft (jW! cF! [a!] 0 (bq! z11))))
noncomputable def uT:FS:=(zA z7u z1w)
noncomputable def yd:Mir:=cW! [ko!,"many"] uT
@[simp] noncomputable def vU:FS:=(zqF 0 1 (aO! o! (eOp zdO n! o!)))
@[simp] noncomputable def jH:FS:=(z1r (d7! 1 D!) vU)
@[simp] noncomputable def z3g:FS:=(xc n!)
noncomputable def kQ:FS:=(zA jH z3g)
noncomputable def vy:Mir:=cW! mC! kQ
@[simp] noncomputable def zfk:FS:=(xc (eC dg!))
@[simp] noncomputable def zfi:FS:=(bm! (fOr (fE! (bq! yS)) (fE! (dW! yd fj!))) zfk)
@[simp] noncomputable def zeJ:FS:=(xc (zc2 (eOp dGe (bq! z7g) D!) (eOp dGt (bq! vH) D!)))
noncomputable def qk:FS:=(zA zfi zeJ)
noncomputable def yt:Mir:=cL! c3! qk
@[simp] noncomputable def zad:FS:=fNo
@[simp] noncomputable def zb6:FS:=(bm! (fE! (bq! yt)) zad)
noncomputable def z6B:FS:=zb6
noncomputable def xo:Mir:=cL! c3! z6B
@[simp] noncomputable def z9G:FS:=(bm! (fE! (bq! yt)) (z8d gR!))
noncomputable def z3H:FS:=z9G
noncomputable def xQ:Mir:=kT c3! 1 z3H
@[simp] noncomputable def zeP:FS:=(wk (bq! xo))
@[simp] noncomputable def z8n:FS:=(yu 1 D!)
@[simp] noncomputable def z2P:FS:=(yu 1 (ez! vy o! 2))
@[simp] noncomputable def z3o:FS:=(gh! cF! 2 z2P)
@[simp] noncomputable def z84:FS:=(xc o!)
noncomputable def zbi:FS:=(zA zeP (be! z8n z3o z84))
noncomputable def z5a:Mir:=cL! [az!,"divisor",iy!] zbi
@[simp] noncomputable def zd9:FS:=(wk (bq! xQ))
noncomputable def zfm:FS:=(zA zd9 (be! (z0s z8n) (z0s z3o) (z0s z84)))
noncomputable def z5i:Mir:=kT [az!,"divisor",iy!] 1 zfm
@[simp] noncomputable def z9F:FS:=(wk (bq! xo))
@[simp] noncomputable def z2o:FS:=(xc (go! (a0! yM (zv cF! [a!] (yh 0) (d7! 0 D!) n!)) ak!))
noncomputable def z3F:FS:=(zA z9F z2o)
noncomputable def xD:Mir:=cL! hJ! z3F
@[simp] noncomputable def zb3:FS:=(xc (a0! zm1 (lE! (z4P (cg! n! 1)) iH! (yN 0 1) (hk! 0 o!))))
noncomputable def z5A:FS:=zb3
noncomputable def xT:Mir:=cW! [d3!,kp!] z5A
@[simp] noncomputable def z16:FS:=(xc (el! (jB (bC! fj!)) (au! 0) 1 (el! cF! b4! 1 (gb! 1))))
noncomputable def z23:FS:=z16
noncomputable def yR:Mir:=cL! [ef!] z23
@[simp] noncomputable def z63:FS:=(yu 3 (bc! (ge! n! o!) (eG! n! (gH! 1))))
@[simp] noncomputable def z6h:FS:=(xc (el! (zT ba!) (au! 2) 1 (bc! (ge! o! n!) (eG! o! (gH! 0)))))
noncomputable def z8w:FS:=(zA z63 z6h)
noncomputable def xN:Mir:=Mof [i8!,"at_line",qv!,"kept"] 3 z8w
@[simp] noncomputable def zca:FS:=(xc (eIf (eO! (eOp zdO (jj! 0 o!) (O! 2)) D!) ak! dQ!))
noncomputable def z89:FS:=zca
noncomputable def wj:Mir:=cW! [d3!,lj!] z89
@[simp] noncomputable def z0u:FS:=(yu 1 (eLR (co! 0)))
@[simp] noncomputable def z0h:FS:=(xc (el! (zT o!) b4! 1 (el! cF! b4! 1 (eIf (eO! n! o!) ak! D!))))
noncomputable def z1g:FS:=(zA z0u z0h)
noncomputable def xJ:Mir:=cL! [l0!,lk!] z1g
@[simp] noncomputable def z71:FS:=(xc (el! cF! b4! 1 (ez! xT o! 0)))
noncomputable def z1y:FS:=z71
noncomputable def xE:Mir:=cW! [i8!,kp!] z1y
@[simp] noncomputable def z9O(Mr:Mir):FS:=(xc (c5! (gI! 0) D!))
@[simp] noncomputable def z8G(Mr:Mir):FS:=(bm! (eO! fj! ak!) (z9O Mr))
@[simp] noncomputable def z2f(Mr:Mir):FS:=(xc (a0! zm1 (lE! (z1S (bC! (gI! 0))) (dz! 0) (yN 1 2) (iR! (iR! (ez! wj D! 1) I!) (a0! Mr (zg xN (zb n! (cg! D! 1))))))))
noncomputable def z0w(Mr:Mir):FS:=(zA (z8G Mr) (z2f Mr))
def yD:Nat->Mir
 | 0=>λ_ _=>.no | k+1=>cL! [i8!] (z0w (yD k))
noncomputable def xA:Mir:=yD 4
@[simp] noncomputable def zbF:FS:=(xc (eC dg!))
@[simp] noncomputable def zbK:FS:=(bm! (fE! (bq! yS)) zbF)
@[simp] noncomputable def z4h:FS:=(xc (a0! zft (jW! cF! (au! 0) 1 (zg yd (aO! o! fj!)))))
noncomputable def z6m:FS:=(zA zbK z4h)
noncomputable def vP:Mir:=cL! c3! z6m
@[simp] noncomputable def z7f:FS:=fNo
@[simp] noncomputable def z7A:FS:=(bm! (fE! (bq! vP)) z7f)
noncomputable def z28:FS:=z7A
noncomputable def yF:Mir:=cL! c3! z28
@[simp] noncomputable def z5H:FS:=(bm! (fE! (bq! vP)) (z8d iU!))
noncomputable def z7H:FS:=z5H
noncomputable def z0j:Mir:=kT c3! 1 z7H
@[simp] noncomputable def z7F:FS:=(wk (bq! yF))
@[simp] noncomputable def z7e:FS:=(wk (cA! yF 1))
@[simp] noncomputable def z7s:FS:=fNo
@[simp] noncomputable def z7K:FS:=(bm! (hc! fj! (hg! 1)) z7s)
@[simp] noncomputable def z1z:FS:=(xc (a0! yR (el! (zT (cA! yR 1)) (au! 0) 1 (cM! xE))))
noncomputable def z2u:FS:=(zA z7F (be! z7e z7K z1z))
noncomputable def va:Mir:=cW! mC! z2u
@[simp] noncomputable def z7a:FS:=(wk (bq! yF))
@[simp] noncomputable def jA:FS:=(xc (bq! xA))
noncomputable def z26:FS:=(zA z7a jA)
noncomputable def vc:Mir:=cL! [ef!] z26
@[simp] noncomputable def z6K:FS:=(wk (bq! z0j))
noncomputable def z7v:FS:=(zA z6K (z0s jA))
noncomputable def z0m:Mir:=kT [ef!] 1 z7v
@[simp] noncomputable def z6l:FS:=(yu 1 (bq! vc))
@[simp] noncomputable def z6Q:FS:=fNo
@[simp] noncomputable def z5F:FS:=(bm! (zkN (d7! 1 ak!) (d7! 1 dQ!)) z6Q)
@[simp] noncomputable def qF:FS:=(yu 2 (eLR (bC! fj!)))
@[simp] noncomputable def qC:FS:=(xc (el! (zT I!) (hj! 2 1 0) 3 (el! cF! (hj! 1 3 2) 3 (iR! (hk! 0 (ez! wj o! 3)) (a0! xA (zg xN (zb I! (cg! ba! 1))))))))
noncomputable def z1k:FS:=(zA z6l (be! z5F qF qC))
noncomputable def uY:Mir:=cL! [ef!,n8!,lk!] z1k
@[simp] noncomputable def z4o:FS:=(yu 1 (bq! z0m))
@[simp] noncomputable def z4q:FS:=(bm! (zkN (d7! 1 ak!) (d7! 1 dQ!)) (z8d iV!))
noncomputable def z72:FS:=(zA z4o (be! z4q (z0s qF) (z0s qC)))
noncomputable def uW:Mir:=kT [ef!,n8!,lk!] 1 z72
@[simp] noncomputable def wF:FS:=(yu 2 (z9Z (bC! (bq! xJ))))
@[simp] noncomputable def xl:FS:=(wk (zcH I! (ez! va (fb! 2 dQ!) 3)))
@[simp] noncomputable def wC:FS:=(gh! (zT o!) 3 xl)
@[simp] noncomputable def uQ:FS:=(xc I!)
noncomputable def qu:FS:=(be! wF wC uQ)
noncomputable def wd:Mir:=cW! [l0!,m9!,"products",ef!] qu
noncomputable def z12:FS:=(be! (z0s wF) (z0s wC) (z0s uQ))
noncomputable def wc:Mir:=kT [l0!,m9!,"products",ef!] 2 z12
@[simp] noncomputable def vm:FS:=(yu 1 (zlv n! (bq! vH)))
@[simp] noncomputable def vo:FS:=(xc (cw! o! (bc! (bc! (ge! n! o!) (uP (bC! D!))) (eG! n! (gH! 1)))))
noncomputable def vK:FS:=(zA vm vo)
noncomputable def zX:Mir:=cL! [az!,"at"] vK
@[simp] noncomputable def z0z:FS:=(xc (zlv n! (a0! z7g (zv cF! [a!] (yh 0) (d7! 0 D!) n!))))
noncomputable def z15:FS:=z0z
noncomputable def xb:Mir:=cL! hJ! z15
@[simp] noncomputable def z64:FS:=(xc (zv (jB (bC! fj!)) b4! cc! (d7! 1 n!) o!))
noncomputable def z7Q:FS:=z64
noncomputable def uD:Mir:=cW! [az!,qw!] z7Q
@[simp] noncomputable def zcM:FS:=(xc (zc2 (eIs fU! n!) (zhk z2p t! n!)))
noncomputable def z7S:FS:=zcM
noncomputable def vt:Mir:=cL! c3! z7S
@[simp] noncomputable def zaQ:FS:=(xc (eIf (eO! n! (bM! fT!)) (bc! (eG! o! ak!) (ge! o! ak!)) o!))
noncomputable def zek:FS:=zaQ
noncomputable def jT:Mir:=cW! [cZ!,kp!] zek
@[simp] noncomputable def zcZ:FS:=(zir (bq! zX) (yN 1 2))
@[simp] noncomputable def z6J:FS:=(xc (cw! (zlv I! (cA! vH 2)) (kY (co! 1))))
noncomputable def z7Y:FS:=(zA zcZ z6J)
noncomputable def qr:Mir:=cL! [az!,qx!,qy!] z7Y
@[simp] noncomputable def zai:FS:=(zir (bq! zX) (yN 1 2))
@[simp] noncomputable def zb4:FS:=(xc (cw! (cA! xb 2) (kY (co! 1))))
noncomputable def z6A:FS:=(zA zai zb4)
noncomputable def vT:Mir:=cL! [az!,qx!,qy!] z6A
@[simp] noncomputable def zf0:FS:=(yu 1 (bq! xb))
@[simp] noncomputable def zeS:FS:=(xc (cw! o! (cM! uD)))
noncomputable def zbs:FS:=(zA zf0 zeS)
noncomputable def kj:Mir:=cL! [az!,gY!] zbs
@[simp] noncomputable def zcu:FS:=(xc (cw! D! (kY zm)))
@[simp] noncomputable def zcr:FS:=(bm! (eO! (gI! 0) D!) zcu)
@[simp] noncomputable def zd3:FS:=(xc (cw! D! (dW! uD D!)))
noncomputable def z8h:FS:=(zA zcr zd3)
noncomputable def qA:Mir:=cL! hJ! z8h
@[simp] noncomputable def z9n:FS:=fNo
@[simp] noncomputable def z9r:FS:=(bm! (fE! (bq! vt)) z9n)
noncomputable def z48:FS:=z9r
noncomputable def ua:Mir:=cL! c3! z48
@[simp] noncomputable def z1l:FS:=(bm! (fE! (bq! vt)) (z8d gS!))
noncomputable def z2E:FS:=z1l
noncomputable def ub:Mir:=kT c3! 1 z2E
@[simp] noncomputable def zbn:FS:=(yu 2 (zsl z2p n!))
@[simp] noncomputable def z42:FS:=(zir (zdy 2 [(mM!,qr),(mN!,vT),(mO!,kj),(mP!,qA)] (co! 1)) (yN 3 4))
@[simp] noncomputable def z4e:FS:=(xc (cw! ba! (jW! (jB (bC! (hg! 1))) (hj! 4 1 3) 3 (eIf (gA! (zc9 t!) ba! n!) (eOp z9i (ar! 1 3) (ar! 1 2)) D!))))
noncomputable def z78:FS:=(be! zbn z42 z4e)
noncomputable def vg:Mir:=cW! [cZ!,az!,"deal",gY!,"divided"] z78
@[simp] noncomputable def z03:FS:=(wk (bq! ua))
@[simp] noncomputable def z0i:FS:=(wk (cA! xo 1))
noncomputable def uM:FS:=(zA z03 z0i)
noncomputable def zY:Mir:=cW! dh! uM
@[simp] noncomputable def vI:FS:=(wk (bq! ub))
@[simp] noncomputable def vN:FS:=(wk (cA! xQ 1))
noncomputable def wm:FS:=(zA vI vN)
noncomputable def zB:Mir:=kT dh! 2 wm
@[simp] noncomputable def z9Q:FS:=(wk (cM! zY))
@[simp] noncomputable def z8Y:FS:=fNo
@[simp] noncomputable def z9C:FS:=(bm! (tOf (cA! xD 1)) z8Y)
noncomputable def z4f:FS:=(zA z9Q z9C)
noncomputable def wq:Mir:=cW! dh! z4f
@[simp] noncomputable def ziC:FS:=(wk (cM! wq))
@[simp] noncomputable def ziF:FS:=(zir (cM! vg) (yN 2 3))
@[simp] noncomputable def zen:FS:=(yu 4 (pA! (lE! (z4P (cg! o! 3)) (fh! 1 2 a!) (yN 2 3) (kb! 2 (hk! 3 (ar! 0 1))))))
@[simp] noncomputable def zdN:FS:=(xc (ez! jT n! 4))
noncomputable def zh8:FS:=(zA ziC (be! ziF zen zdN))
noncomputable def M_step:Mir:=cW! [cZ!,az!,gY!,qz!,"left"] zh8
@[simp] noncomputable def z7d:FS:=(wk (cM! wq))
@[simp] noncomputable def z7t:FS:=(zir (cM! vg) (yN 2 3))
@[simp] noncomputable def z1u:FS:=(xc (pA! (lE! (z4P (cg! (a0! xJ (hg! 1)) 3)) (fh! 0 2 a!) (yN 2 3) (dW! jT (bc! (bc! (ge! I! o!) (uP (bC! (bc! (ar! 2 1) ba!)))) (eG! I! (gH! 1)))))))
noncomputable def z2q:FS:=(be! z7d z7t z1u)
noncomputable def vb:Mir:=cW! [cZ!,az!,gY!,qz!] z2q
@[simp] noncomputable def zlI:FS:=(wk (cM! zY))
@[simp] noncomputable def zcR:FS:=(yu 2 (z9Z (co! 1)))
@[simp] noncomputable def z91:FS:=(wk (zcH I! (dW! M_step (fb! 2 dQ!))))
@[simp] noncomputable def zgO:FS:=(z1r (fE! (a0! xD (fb! 2 dQ!))) z91)
@[simp] noncomputable def zfz:FS:=(xc I!)
noncomputable def zle:FS:=(zA zlI (be! zcR zgO zfz))
noncomputable def ziv:Mir:=cW! [cZ!,az!,"lots"] zle
@[simp] noncomputable def zjh:FS:=(wk (cM! zB))
noncomputable def zgS:FS:=(zA zjh (be! (z0s zcR) (z0s zgO) (z0s zfz)))
noncomputable def X_run:Mir:=kT [cZ!,az!,"lots"] 2 zgS
@[simp] noncomputable def ji:FS:=(xc (z19 (zT (ge! (z4A (cM! X_run)) dQ!)) (au! 0) cc! zZ (cM! vb)))
noncomputable def kh:FS:=ji
noncomputable def xH:Mir:=kT dh! 2 kh
@[simp] noncomputable def uL:FS:=(yu 2 (z4A (cM! xH)))
@[simp] noncomputable def kX:FS:=(xc (ez! wc (hg! 1) 2))
noncomputable def qI:FS:=(zA uL kX)
noncomputable def yQ:Mir:=kT [cZ!,az!,m9!] 2 qI
@[simp] noncomputable def uI:FS:=(xc (c5! (z4A (cM! yQ)) dQ!))
noncomputable def qm:FS:=uI
noncomputable def xa:Mir:=kT dh! 2 qm
@[simp] noncomputable def zcI:FS:=(xc (zc2 (zg yd (aO! o! fj!)) (go! (ez! xT o! 0) I!)))
noncomputable def z2U:FS:=zcI
noncomputable def wO:Mir:=Mof [az!,ko!,iy!] 3 z2U
@[simp] noncomputable def z4S:FS:=(wk (bq! xQ))
@[simp] noncomputable def z4O:FS:=(xc (zg wO (zb n! (aO! o! (bq! z5i)))))
noncomputable def qh:FS:=(zA z4S z4O)
noncomputable def yP:Mir:=kT [az!,ko!] 2 qh
@[simp] noncomputable def z6y:FS:=(xc (a0! uW (cM! xa)))
noncomputable def jz:FS:=z6y
noncomputable def yX:Mir:=kT dh! 2 jz
@[simp] noncomputable def z4c:FS:=(xc (c5! (zv (zT (cM! yX)) b4! cc! (hc! (ez! xT o! 0) D!) o!) D!))
noncomputable def z1A:FS:=z4c
noncomputable def vA:Mir:=kT dh! 2 z1A
@[simp] noncomputable def z4s:FS:=(xc (ar! 0 1))
@[simp] noncomputable def z4I:FS:=(bm! (gA! dLt o! fj!) z4s)
@[simp] noncomputable def z4u:FS:=(xc D!)
noncomputable def qq:FS:=(zA z4I z4u)
noncomputable def wH:Mir:=cW! [l1!,qA!] qq
@[simp] noncomputable def z3W:FS:=(yu 2 D!)
@[simp] noncomputable def z0O:FS:=(yu 2 (jj! 2 (hk! 3 (zd 4))))
@[simp] noncomputable def z0q:FS:=(z4B (z4P (cg! n! 1)) (yN 3 4) z0O)
@[simp] noncomputable def zba:FS:=(xc I!)
noncomputable def z5L:FS:=(be! z3W z0q zba)
noncomputable def vR:Mir:=cW! [d4!,dK!,pc!,qB!,n9!] z5L
@[simp] noncomputable def z1p:FS:=(xc (go! (a0! yM (zv cF! [a!] (yh 0) (gA! dGt n! D!) n!)) ak!))
noncomputable def z2D:FS:=z1p
noncomputable def xw:Mir:=cL! [dL!] z2D
@[simp] noncomputable def zaK:FS:=(yu 1 D!)
@[simp] noncomputable def z0n:FS:=(yu 3 I!)
@[simp] noncomputable def z0K:FS:=(zqF 1 3 (aO! ba! (eOp zdO o! ba!)))
@[simp] noncomputable def z0a:FS:=(z1r (d7! 3 D!) z0K)
@[simp] noncomputable def zaA:FS:=(gh! cF! 2 (zA z0n z0a))
@[simp] noncomputable def zbJ:FS:=(xc o!)
noncomputable def z6n:FS:=(be! zaK zaA zbJ)
noncomputable def qd:Mir:=cL! [kq!,hy!,cP!,dK!] z6n
@[simp] noncomputable def zbc:FS:=(yu 2 (z9Z zm))
@[simp] noncomputable def zap:FS:=(yu 4 D!)
@[simp] noncomputable def zbg:FS:=(yu 4 (jj! 4 (hk! 5 (zd 6))))
@[simp] noncomputable def zaJ:FS:=(z4B (z4P (cg! ba! 1)) (yN 5 6) zbg)
@[simp] noncomputable def zbj:FS:=(wk (zcH I! (zd 4)))
@[simp] noncomputable def zbE:FS:=(gh! cF! 3 (be! zap zaJ zbj))
@[simp] noncomputable def zb5:FS:=(xc (pA! I!))
noncomputable def zcg:FS:=(be! zbc zbE zb5)
noncomputable def z7V:Mir:=z4Q (cW! [i9!,kq!,hy!,fX!,pc!,d4!,dK!] zcg)
@[simp] noncomputable def z0F:FS:=(yu 2 (z9Z zm))
@[simp] noncomputable def vw:FS:=(yu 4 D!)
@[simp] noncomputable def qp:FS:=(yu 4 (jj! 4 (hk! 5 (zd 6))))
@[simp] noncomputable def vD:FS:=(z4B (z4P (cg! ba! 1)) (yN 5 6) qp)
@[simp] noncomputable def wo:FS:=(wk (zcH I! (zd 4)))
@[simp] noncomputable def z0C:FS:=(gh! cF! 3 (be! vw vD wo))
@[simp] noncomputable def qg:FS:=(xc (pA! I!))
noncomputable def z1d:FS:=(be! z0F z0C qg)
noncomputable def vp:Mir:=z4Q (cW! ["_law_table_here",kq!,hy!,fX!,pc!,d4!,dK!] z1d)
@[simp] noncomputable def z14:FS:=(xc (el! (eb! 0) (au! 0) 1 (el! (eb! 0) b4! 1 (a0! zdf (go! n! o!)))))
noncomputable def z2l:FS:=z14
noncomputable def xu:Mir:=cL! [fu!] z2l
@[simp] noncomputable def zbd:FS:=(xc (z9Z (bC! (kb! 0 (eOp zdP (O! 10) (O! 18))))))
@[simp] noncomputable def zbo:FS:=(bm! (gA! dGe n! (eOp zdP (O! 10) (O! 18))) zbd)
@[simp] noncomputable def zbG:FS:=(yu 1 D!)
@[simp] noncomputable def z3Z:FS:=(yu 3 (eOp zdO (iR! (bc! (bc! (eOp zdO n! (O! pd!)) (iR! (O! 7919) I!)) ak!) (O! 48271)) (O! 2147483647)))
@[simp] noncomputable def z3L:FS:=(yu 3 (eOp zdO (bc! (bc! (hk! 3 ba!) (iR! (O! 69621) I!)) (O! 7)) (O! l2!)))
@[simp] noncomputable def z43:FS:=(yu 1 (bc! (hk! 1 (O! l2!)) ba!))
@[simp] noncomputable def z3Y:FS:=(gh! (jB (bC! (O! 64))) 2 (be! z3Z z3L z43))
@[simp] noncomputable def zbk:FS:=(xc (z9Z (co! 1)))
noncomputable def z1C:FS:=(zA zbo (be! zbG z3Y zbk))
noncomputable def jL:Mir:=cL! ["_law_cell",cP!,"_law_j",ll!] z1C
@[simp] noncomputable def z4v:FS:=(yu 2 fj!)
@[simp] noncomputable def z4D:FS:=(yu 3 (jW! (eb! 2) (eX! 0 1) 2 (dW! z7V (jW! (zT o!) (au! 2) 1 (gb! 1)))))
@[simp] noncomputable def z4p:FS:=(xc (el! (eb! 2) (au! 3) 1 (el! cF! b4! 1 (gb! 1))))
noncomputable def z5w:FS:=(be! z4v z4D z4p)
noncomputable def jo:Mir:=cW! [d4!,dK!,fu!,qC!] z5w
@[simp] noncomputable def wV:FS:=(yu 2 fj!)
@[simp] noncomputable def wX:FS:=(yu 3 (jW! (eb! 2) (eX! 0 1) 2 (dW! vp (jW! (zT o!) (au! 2) 1 (gb! 1)))))
@[simp] noncomputable def wU:FS:=(xc (el! (eb! 2) (au! 3) 1 (el! cF! b4! 1 (gb! 1))))
noncomputable def qN:FS:=(be! wV wX wU)
noncomputable def ww:Mir:=cW! [d4!,dK!,fu!,qC!] qN
@[simp] noncomputable def z7n:FS:=(xc (kY (fn! (bM! iT!) (eC kH!) (eC js!) (bM! fT!) zm)))
noncomputable def z8S:FS:=z7n
noncomputable def ja:Mir:=Mof [] 0 z8S
@[simp] noncomputable def jZ:FS:=(yu 2 (hg! 1))
@[simp] noncomputable def uV:FS:=(yu 3 (a0! z2W (zv (z1S (co! 1)) iH! (yN 0 1) (gA! dGt o! D!) (cw! o! n!))))
@[simp] noncomputable def kf:FS:=(yu 4 (c5! (zv (eb! 2) b4! cc! (eO! (ar! 0 1) (bq! vH)) o!) D!))
@[simp] noncomputable def jQ:FS:=(yu 5 (zfM iT! fT! (c5! (gI! 3) ak!) D! n!))
@[simp] noncomputable def kE:FS:=(yu 5 (c5! (zv (zT ba!) (dz! 4) (yN 1 2) (d7! 2 n!) I!) D!))
@[simp] noncomputable def wv:FS:=(bm! (eO! n! (eC kH!)) kE)
@[simp] noncomputable def jY:FS:=(yu 6 (a0! vH (zv (zT ba!) (dz! 4) (yN 1 2) (d7! 2 n!) o!)))
@[simp] noncomputable def kg:FS:=(yu 5 (c5! (zv (eb! 2) (hj! 6 4 1) (yh 3) (zkN (eO! (ar! 2 3) n!) (d7! 3 o!)) ba!) D!))
@[simp] noncomputable def wy:FS:=(bm! (eO! n! (eC js!)) (zA jY kg))
@[simp] noncomputable def ui:FS:=(yu 7 (zv (eb! 2) (au! 5) cc! (d7! 1 n!) o!))
@[simp] noncomputable def z1n:FS:=(yu 7 (kY (co! 4)))
@[simp] noncomputable def xY:FS:=(bm! (gA! (zc9 t!) n! (cw! (eC js!) (eC kH!))) z1n)
@[simp] noncomputable def xV:FS:=(yu 8 (eOp zeu (z9Z (bC! D!)) I!))
@[simp] noncomputable def z1q:FS:=(z0y (zd 8) (zd 9) (eOp z9i (ar! 1 9) (ar! 1 5)))
@[simp] noncomputable def xR:FS:=(bm! (gA! dGt (ar! 1 5) D!) z1q)
@[simp] noncomputable def ux:FS:=(gh! (zT (zd 7)) 9 xR)
@[simp] noncomputable def xS:FS:=(yu 10 (lE! (z1S (co! 1)) [b! 8,b! 1,b! 5,a!,a!] (yN 3 4) (kb! 4 (iR! (ar! 0 3) (ar! 1 2)))))
@[simp] noncomputable def wP:FS:=(yu 11 (z9Z zm))
@[simp] noncomputable def wJ:FS:=(yu 12 (z19 (eb! 2) (au! 9) cc! zZ (a0! zdf (go! n! o!))))
@[simp] noncomputable def wQ:FS:=(z0y (zd 12) (zd 5) (bc! (ar! 12 5) (ar! 8 9)))
@[simp] noncomputable def z1s:FS:=(yu 12 (bc! (eG! (zd 12) ak!) (ge! (zd 12) ak!)))
@[simp] noncomputable def wM:FS:=(bm! (eO! n! (bM! fT!)) z1s)
@[simp] noncomputable def wR:FS:=(wk (zcH (zd 11) (cA! zW 12)))
@[simp] noncomputable def xU:FS:=(gh! (eb! 2) 9 (zA wJ (be! wQ wM wR)))
@[simp] noncomputable def z1i:FS:=(yu 10 (bc! (eG! (zd 10) ak!) (ge! (zd 10) ak!)))
@[simp] noncomputable def xP:FS:=(bm! (eO! n! (bM! fT!)) z1i)
@[simp] noncomputable def xW:FS:=(xc (cw! (cA! zW 10) (cA! zW 11)))
noncomputable def z4d:FS:=(be! jZ uV (dw! kf jQ wv wy (dw! ui xY xV ux (dw! xS wP xU xP xW))))
noncomputable def qw:Mir:=z4Q (cW! [fv!,dL!,fu!,"_law_order",na!,oa!,qD!,iz!,qE!,eg!,ob!,"_law_lines",fX!] z4d)
@[simp] noncomputable def z4t:FS:=(yu 2 (hg! 1))
@[simp] noncomputable def z4x:FS:=(yu 3 (a0! z2W (zv (z1S (co! 1)) iH! (yN 0 1) (gA! dGt o! D!) (cw! o! n!))))
@[simp] noncomputable def z4L:FS:=(yu 4 (c5! (zv (eb! 2) b4! cc! (eO! (ar! 0 1) (bq! vH)) o!) D!))
@[simp] noncomputable def z4w:FS:=(yu 5 (zfM iT! fT! (c5! (gI! 3) ak!) D! n!))
@[simp] noncomputable def z4J:FS:=(yu 5 (c5! (zv (zT ba!) (dz! 4) (yN 1 2) (d7! 2 n!) I!) D!))
@[simp] noncomputable def z4U:FS:=(bm! (eO! n! (eC kH!)) z4J)
@[simp] noncomputable def z4F:FS:=(yu 6 (a0! vH (zv (zT ba!) (dz! 4) (yN 1 2) (d7! 2 n!) o!)))
@[simp] noncomputable def z4y:FS:=(yu 5 (c5! (zv (eb! 2) (hj! 6 4 1) (yh 3) (zkN (eO! (ar! 2 3) n!) (d7! 3 o!)) ba!) D!))
@[simp] noncomputable def z4n:FS:=(bm! (eO! n! (eC js!)) (zA z4F z4y))
@[simp] noncomputable def z3p:FS:=(yu 7 (zv (eb! 2) (au! 5) cc! (d7! 1 n!) o!))
@[simp] noncomputable def z34:FS:=(yu 7 (kY (co! 4)))
@[simp] noncomputable def z3i:FS:=(bm! (gA! (zc9 t!) n! (cw! (eC js!) (eC kH!))) z34)
@[simp] noncomputable def z3t:FS:=(yu 8 (eOp zeu (z9Z (bC! D!)) I!))
@[simp] noncomputable def z2Y:FS:=(z0y (zd 8) (zd 9) (eOp z9i (ar! 1 9) (ar! 1 5)))
@[simp] noncomputable def z39:FS:=(bm! (gA! dGt (ar! 1 5) D!) z2Y)
@[simp] noncomputable def z3h:FS:=(gh! (zT (zd 7)) 9 z39)
@[simp] noncomputable def z3c:FS:=(yu 10 (lE! (z1S (co! 1)) [b! 8,b! 1,b! 5,a!,a!] (yN 3 4) (kb! 4 (iR! (ar! 0 3) (ar! 1 2)))))
@[simp] noncomputable def z30:FS:=(yu 11 (z9Z zm))
@[simp] noncomputable def z3f:FS:=(yu 12 (z19 (eb! 2) (au! 9) cc! zZ (a0! zdf (go! n! o!))))
@[simp] noncomputable def z38:FS:=(z0y (zd 12) (zd 5) (bc! (ar! 12 5) (ar! 8 9)))
@[simp] noncomputable def z3r:FS:=(yu 12 (bc! (eG! (zd 12) ak!) (ge! (zd 12) ak!)))
@[simp] noncomputable def z2O:FS:=(bm! (eO! n! (bM! fT!)) z3r)
@[simp] noncomputable def z2Q:FS:=(wk (zcH (zd 11) (cA! zW 12)))
@[simp] noncomputable def z2R:FS:=(gh! (eb! 2) 9 (zA z3f (be! z38 z2O z2Q)))
@[simp] noncomputable def z3b:FS:=(yu 10 (bc! (eG! (zd 10) ak!) (ge! (zd 10) ak!)))
@[simp] noncomputable def z3q:FS:=(bm! (eO! n! (bM! fT!)) z3b)
@[simp] noncomputable def z3v:FS:=(xc (cw! (cA! zW 10) (cA! zW 11)))
noncomputable def z5I:FS:=(be! z4t z4x (dw! z4L z4w z4U z4n (dw! z3p z3i z3t z3h (dw! z3c z30 z2R z3q z3v))))
noncomputable def z1f:Mir:=z4Q (cW! [fv!,dL!,fu!,"_law_order",na!,oa!,qD!,iz!,qE!,eg!,ob!,kr!,fX!] z5I)
@[simp] noncomputable def z9S:FS:=(yu 2 (eOp zdO (gI! 0) o!))
@[simp] noncomputable def z8T:FS:=(z0y n! D! (eOp z9i (gI! 0) o!))
@[simp] noncomputable def z8W:FS:=(xc I!)
noncomputable def z44:FS:=(be! z9S z8T z8W)
noncomputable def zC:Mir:=cW! [e9!,qF!,hy!] z44
@[simp] noncomputable def z7w:FS:=(xc (zc2 (eIs ee! n!) (zqH (eIs fs! n!))))
noncomputable def z9l:FS:=z7w
noncomputable def vf:Mir:=cL! [ja!] z9l
@[simp] noncomputable def qR:FS:=(xc (zc2 (rk! n!) (zc2 (go! fj! o!) (a0! zft (jW! cF! [a!] 0 (bq! vf))))))
noncomputable def vY:FS:=qR
noncomputable def yJ:Mir:=cW! [ja!,iA!] vY
@[simp] noncomputable def z6e:FS:=(xc (eC dg!))
@[simp] noncomputable def z0D:FS:=(bm! (fOr (fE! (rk! n!)) (gA! (zc9 c!) fj! (uP (zb (O! 2) (aO! (O! 3) (O! 4)))))) z6e)
@[simp] noncomputable def z6T:FS:=(xc (eC dg!))
@[simp] noncomputable def xr:FS:=(bm! (fOr (fE! (cA! vf 1)) (gA! dLt o! D!)) z6T)
@[simp] noncomputable def wg:FS:=(gh! cF! 1 xr)
@[simp] noncomputable def vz:FS:=(xc (eOp dGt (bq! vH) D!))
noncomputable def ud:FS:=(be! z0D wg vz)
noncomputable def yA:Mir:=cL! [ja!,cP!] ud
@[simp] noncomputable def z0J:FS:=(yu 1 (bc! (O! 2) (dW! zC (O! 3))))
@[simp] noncomputable def z0B:FS:=(yu 2 (c5! (kY (fn! (O! 13) (O! e3!) (eOp zdP (O! 10) (O! 6)) (eOp zdP (O! 10) (O! 30)) (aO! (O! 3) (O! 60)))) (dW! zC (O! 6))))
@[simp] noncomputable def z0x:FS:=(yu 3 (dW! zC (O! 4)))
@[simp] noncomputable def z0H:FS:=(yu 4 (z9Z zm))
@[simp] noncomputable def qX:FS:=(yu 6 (bc! (dW! zC I!) ak!))
@[simp] noncomputable def jh:FS:=(wk (zcH (zd 4) (hk! 6 (a0! zdf (eOp dGe (dW! zC (O! 4)) ba!)))))
@[simp] noncomputable def z0f:FS:=(gh! (eb! 1) 5 (zA qX jh))
@[simp] noncomputable def z3y:FS:=(z0y (zd 4) (cM! zC) (bc! ak! (dW! zC I!)))
@[simp] noncomputable def jb:FS:=(bm! (eO! (cA! vH 4) D!) z3y)
@[simp] noncomputable def ky:FS:=(yu 7 (bc! ak! (dW! zC (O! 12))))
@[simp] noncomputable def z20:FS:=(z0y (zd 4) (cM! zC) (fb! 4 (cM! zC)))
@[simp] noncomputable def qa:FS:=(bm! (eO! (dW! zC (O! 3)) D!) z20)
@[simp] noncomputable def z21:FS:=(z0y (zd 4) D! ak!)
@[simp] noncomputable def uX:FS:=(bm! (eO! (cA! vH 4) D!) z21)
@[simp] noncomputable def z2A:FS:=(xc (el! (zT (zd 4)) (au! 7) 1 (hk! 1 n!)))
noncomputable def z6g:FS:=(zA z0J (dw! z0B z0x z0H z0f (dw! jb ky qa uX z2A)))
noncomputable def z0W:Mir:=z4Q (cL! [e9!,fu!,qF!,"_law_thin",kq!,eg!,cP!,ll!] z6g)
@[simp] noncomputable def kK:FS:=(yu 2 (kY (zb (zln o!) (fn! (eOp zk7 o! (bM! " ")) (zu3 o! (yy ak!)) (eOp zk7 o! (bM! "s")) (bM! "") (fn! (eC at!) (O! 3) (uP (co! 1)) (kY (co! 1)) (aO! (eC eA!) (eC .dct)))))))
@[simp] noncomputable def kP:FS:=(xc (fb! 2 (dW! zC (O! 11))))
noncomputable def z0d:FS:=(zA kK kP)
noncomputable def ut:Mir:=cW! [e9!,fv!,iz!] z0d
@[simp] noncomputable def z3T:FS:=(yu 1 (kY (fn! (eC at!) (eC eA!) (eC dg!) dQ! (fn! D! (O! 7) (eOp zdP (O! 10) (O! 30)) (bM! "") (fn! (bM! "1:0") (uP zm) (cw! D! D!) (uP (bC! ak!)) (aO! (kY (aO! ak! D!)) (eC .dct)))))))
@[simp] noncomputable def z3z:FS:=(xc (c5! (jj! 1 (kY (aO! (cw! (cw! ak! D!) (cw! D! ak!)) (cw! (eC eA!) (O! 2))))) (dW! zC (O! 16))))
noncomputable def z6V:FS:=(zA z3T z3z)
noncomputable def vO:Mir:=cL! [e9!,iz!] z6V
@[simp] noncomputable def z09:FS:=(yu 2 (z9Z (co! 1)))
@[simp] noncomputable def z0l:FS:=(yu 3 (z9Z zm))
@[simp] noncomputable def jg:FS:=(zir (dW! qw (fb! 2 dQ!)) (yN 4 5))
@[simp] noncomputable def qP:FS:=(wk (zcH I! (zd 4)))
@[simp] noncomputable def jf:FS:=(wk (zcH ba! (zd 5)))
@[simp] noncomputable def z4i:FS:=(z1r (fE! (a0! xw (fb! 2 dQ!))) (be! jg qP jf))
@[simp] noncomputable def z4j:FS:=(xc (cw! I! ba!))
noncomputable def z6L:FS:=(zA z09 (be! z0l z4i z4j))
noncomputable def z0P:Mir:=cW! [fv!,dL!,pe!,pf!,ob!,i9!] z6L
@[simp] noncomputable def z6Z:FS:=(yu 2 (z9Z (co! 1)))
@[simp] noncomputable def z61:FS:=(yu 3 (z9Z zm))
@[simp] noncomputable def z75:FS:=(zir (dW! z1f (fb! 2 dQ!)) (yN 4 5))
@[simp] noncomputable def z5B:FS:=(wk (zcH I! (zd 4)))
@[simp] noncomputable def z5S:FS:=(wk (zcH ba! (zd 5)))
@[simp] noncomputable def z62:FS:=(z1r (fE! (a0! xw (fb! 2 dQ!))) (be! z75 z5B z5S))
@[simp] noncomputable def z5x:FS:=(xc (cw! I! ba!))
noncomputable def z7q:FS:=(zA z6Z (be! z61 z62 z5x))
noncomputable def ku:Mir:=cW! [fv!,dL!,pe!,pf!,ob!,i9!] z7q
@[simp] noncomputable def z90(Mr:Mir):FS:=(xc (eC dg!))
@[simp] noncomputable def z2J(Mr:Mir):FS:=(bm! (fOr (hc! (eIs d0! o!) (eIs d0! n!)) (hc! (rk! o!) (rk! n!))) (z90 Mr))
@[simp] noncomputable def ke(Mr:Mir):FS:=(xc (zc2 (go! fj! (hg! 1)) (a0! zft (lE! (z4P (cg! n! 1)) iH! (yN 0 1) (cM! Mr)))))
@[simp] noncomputable def z1U(Mr:Mir):FS:=(bm! (tOf (znX d0! dd! o!)) (zA (z2J Mr) (ke Mr)))
@[simp] noncomputable def z9N(Mr:Mir):FS:=(xc (zc2 (go! n! o!) (go! (eIs fs! n!) (eIs fs! o!))))
@[simp] noncomputable def z9J(Mr:Mir):FS:=(bm! (fOr (gA! dIs o! (eC at!)) (fOr (tOf (eIs fs! o!)) (tOf (eIs fU! o!)))) (z9N Mr))
@[simp] noncomputable def z9b(Mr:Mir):FS:=(xc (zc2 (bq! vf) (go! n! o!)))
noncomputable def uF(Mr:Mir):FS:=(be! (z1U Mr) (z9J Mr) (z9b Mr))
def zU:Nat->Mir
 | 0=>λ_ _=>.no | k+1=>cW! [hy!,oc!] (uF (zU k))
noncomputable def km:Mir:=zU 5
@[simp] noncomputable def kw:FS:=(yu 2 (dW! zC (hg! 1)))
@[simp] noncomputable def kF:FS:=(yu 3 (kY (fn! (bc! (ar! 1 2) ak!) (eOp z7h (ar! 1 2) ak!) (eOp z7h D! (ar! 1 2)) D! (fn! (eC eA!) (eC at!) (bM! "1") (uP (bC! ak!)) (aO! (eOp zdP (O! 10) (O! 30)) (fb! 1 (kb! 2 ak!)))))))
@[simp] noncomputable def jW:FS:=(yu 3 (fb! 3 (dW! zC (O! 10))))
@[simp] noncomputable def z1W:FS:=(yu 4 (kY (fn! (bc! (bc! (ge! o! I!) (uP (co! 3))) (eG! o! (gH! 2))) (bc! (bc! (ge! o! I!) (uP (co! 3))) (eG! o! (gH! 2))) (bc! (ge! o! I!) (eG! o! (gH! 2))) (cA! z6W 1) zm)))
@[simp] noncomputable def uZ:FS:=(yu 4 (jj! 4 (kY (fn! (bc! (bc! (ge! o! I!) (uP (bC! D!))) (eG! o! I!)) (zpM o!) (jj! 1 o!) (eOp zg8 (uP (bC! D!)) (hg! 1)) (aO! (bq! vO) (uP (co! 1)))))))
@[simp] noncomputable def z25:FS:=(xc (fb! 4 (dW! zC (O! 10))))
noncomputable def z40:FS:=(zA kw (dw! kF jW z1W uZ z25))
noncomputable def xf:Mir:=cW! [e9!,pg!,ev!,"_law_odd_here",iz!] z40
end Pg
set_option maxRecDepth 1000000
set_option maxHeartbeats 4000000
namespace Pm
noncomputable abbrev Tb:=fC!
noncomputable def dot(r v:g!):Int:=(ks! (λa b=>a*b) r v).sum
noncomputable def mv(T:Tb)(v:g!):g!:=od! (λr=>eM! v)
noncomputable def yi(T:Tb):Tb:=aS! aY! (λj=>od! (λr=>cC! j))
noncomputable def jw(A B:Tb):Tb:=yi ((yi B).map (mv A))
noncomputable def z17(T:Tb)(i j:Nat):Tb:=(T.take i++T.drop (i+1)).map λr=>rn!++nS! (j+1)
noncomputable def sg(i j:Nat):Int:=ai! ((i+j) % 2=0) 1 (-1)
def det:Nat->Tb->Int
 | 0,_=>0 | k+1,T=>af! aY! 1 (bg! (jo! 0) 0) (aS! aY! (λj=>sg 0 j*bg! (jo! 0) j*det k (ht! 0))).sum
noncomputable def back(T:Tb):Tb:=aS! aY! (λi=>aS! aY! (λj=>em! T*sg i j*em! (z17 T j i)))
noncomputable def one(n:Nat):Tb:=aS! n (λi=>aS! n (λj=>af! i j 1 0))
structure Tab(n:Nat)(T:Tb):j! where
 len:aY!=n
 row:∀r∈T,aE!=n
theorem z8Q{α:cd!}{l:eV!}(h:lm!=2):∃a b,l=[a,b]:=by match l,h with | [a,b],_=>exact aQ! a b rfl
theorem z7i{α:cd!}{l:eV!}(h:lm!=3):∃a b c,l=[a,b,c]:=by match l,h with | [a,b,c],_=>exact⟨a,b,c,rfl⟩
theorem z65{α:cd!}{l:eV!}(h:lm!=4):∃a b c d,l=[a,b,c,d]:=by match l,h with | [a,b,c,d],_=>exact⟨a,b,c,d,rfl⟩
theorem z8E(h:Tab 2 T):∃a b c d,T=[[a,b],[c,d]]:=by
 obtain⟨r,q,rfl⟩:=z8Q h.len;obtain⟨a,b,rfl⟩:=z8Q (jb! r (by simp));obtain⟨c,d,rfl⟩:=z8Q (jb! q (by simp));exact⟨a,b,c,d,rfl⟩
theorem z9o(h:Tab 3 T):∃a b c d e f g i j,T=[[a,b,c],[d,e,f],[g,i,j]]:=by
 obtain⟨r,q,p,rfl⟩:=z7i h.len;obtain⟨a,b,c,rfl⟩:=z7i (jb! r (by simp));obtain⟨d,e,f,rfl⟩:=z7i (jb! q (by simp));obtain⟨g,i,j,rfl⟩:=z7i (jb! p (by simp));exact⟨a,b,c,d,e,f,g,i,j,rfl⟩
theorem z96(h:Tab 4 T):∃a b c d e f g i j k l m n o p q,T=[[a,b,c,d],[e,f,g,i],[j,k,l,m],[n,o,p,q]]:=by
 obtain⟨r1,r2,r3,r4,rfl⟩:=z65 h.len;obtain⟨a,b,c,d,rfl⟩:=z65 (jb! r1 (by simp));obtain⟨e,f,g,i,rfl⟩:=z65 (jb! r2 (by simp));obtain⟨j,k,l,m,rfl⟩:=z65 (jb! r3 (by simp));obtain⟨n,o,p,q,rfl⟩:=z65 (jb! r4 (by simp));exact⟨a,b,c,d,e,f,g,i,j,k,l,m,n,o,p,q,rfl⟩
theorem zbw(a b c d A B C D:Int):jw [[a,b],[c,d]] [[A,B],[C,D]]=[[a*A+(b*C+0),a*B+(b*D+0)],[c*A+(d*C+0),c*B+(d*D+0)]]:=rfl
theorem zaI(a b c d e f g i j A B C D E F G I J:Int):jw [[a,b,c],[d,e,f],[g,i,j]] [[A,B,C],[D,E,F],[G,I,J]]= [[a*A+(b*D+(c*G+0)),a*B+(b*E+(c*I+0)),a*C+(b*F+(c*J+0))],[d*A+(e*D+(f*G+0)),d*B+(e*E+(f*I+0)),d*C+(e*F+(f*J+0))],[g*A+(i*D+(j*G+0)),g*B+(i*E+(j*I+0)),g*C+(i*F+(j*J+0))]]:=rfl
theorem zaT(a b c d e f g i j k l m n o p q A B C D E F G I J K L M N Oo P Q:Int):jw [[a,b,c,d],[e,f,g,i],[j,k,l,m],[n,o,p,q]] [[A,B,C,D],[E,F,G,I],[J,K,L,M],[N,Oo,P,Q]]= [[a*A+(b*E+(c*J+(d*N+0))),a*B+(b*F+(c*K+(d*Oo+0))),a*C+(b*G+(c*L+(d*P+0))),a*D+(b*I+(c*M+(d*Q+0)))], [e*A+(f*E+(g*J+(i*N+0))),e*B+(f*F+(g*K+(i*Oo+0))),e*C+(f*G+(g*L+(i*P+0))),e*D+(f*I+(g*M+(i*Q+0)))], [j*A+(k*E+(l*J+(m*N+0))),j*B+(k*F+(l*K+(m*Oo+0))),j*C+(k*G+(l*L+(m*P+0))),j*D+(k*I+(l*M+(m*Q+0)))], [n*A+(o*E+(p*J+(q*N+0))),n*B+(o*F+(p*K+(q*Oo+0))),n*C+(o*G+(p*L+(q*P+0))),n*D+(o*I+(p*M+(q*Q+0)))]]:=rfl
noncomputable def d2(a b c d:Int):Int:=a*d-b*c
noncomputable def d3(a b c d e f g h i:Int):Int:=a*d2 e f h i-b*d2 d f g i+c*d2 d e g h
noncomputable def d4(a b c d e f g h i j k l m n o p:Int):Int:=a*d3 f g h j k l n o p-b*d3 e g h i k l m o p+c*d3 e f h i j l m n p-d*d3 e f g i j k m n o
theorem zcb(k:Nat)(a b c d:Int):det (k+2) [[a,b],[c,d]]=d2 a b c d:=by
 show (1*a*d+(-1*b*c+0))=_;unfold d2;grind
theorem zaf(k:Nat)(a b c d e f g h i:Int):det (k+3) [[a,b,c],[d,e,f],[g,h,i]]=aL! d e f g h i:=by
 rw[det];simp[List.range,List.range.loop,z17,sg,zcb,d3];grind
theorem zbx(k:Nat)(a b c d e f g h i j l m n o p q:Int):det (k+4) [[a,b,c,d],[e,f,g,h],[i,j,l,m],[n,o,p,q]]=d4 a b c d e f g h i j l m n o p q:=by
 rw[det];simp[List.range,List.range.loop,z17,sg,zaf,d4];grind
theorem zqT(a b c d:Int):gx! [[a,b],[c,d]]=[[d2 a b c d*d,-(d2 a b c d*b)],[-(d2 a b c d*c),d2 a b c d*a]]:=by
 have m1:∀x:Int,em! [[x]]=x:=λx=>rfl;simp[back,List.range,List.range.loop,z17,sg,zcb,m1,Int.neg_mul]
theorem zrL(a b c d e f g h i:Int):gx! [[a,b,c],[d,e,f],[g,h,i]]= [[aL! d e f g h i*d2 e f h i,-(aL! d e f g h i*d2 b c h i),aL! d e f g h i*d2 b c e f], [-(aL! d e f g h i*d2 d f g i),aL! d e f g h i*d2 a c g i,-(aL! d e f g h i*d2 a c d f)], [aL! d e f g h i*d2 d e g h,-(aL! d e f g h i*d2 a b g h),aL! d e f g h i*d2 a b d e]]:=by simp[back,List.range,List.range.loop,z17,sg,zcb,zaf,Int.neg_mul]
theorem zrg(a b c d e f g h i j l m n o p q:Int):gx! [[a,b,c,d],[e,f,g,h],[i,j,l,m],[n,o,p,q]]= let t:=d4 a b c d e f g h i j l m n o p q;[[t*d3 f g h j l m o p q,-(t*d3 b c d j l m o p q),t*d3 b c d f g h o p q,-(t*d3 b c d f g h j l m)], [-(t*d3 e g h i l m n p q),t*cu! c d i l m n p q,-(t*cu! c d e g h n p q),t*cu! c d e g h i l m], [t*d3 e f h i j m n o q,-(t*cv! d i j m n o q),t*cv! d e f h n o q,-(t*cv! d e f h i j m)], [-(t*d3 e f g i j l n o p),t*aL! i j l n o p,-(t*aL! e f g n o p),t*aL! e f g i j l]]:=by simp[back,List.range,List.range.loop,z17,sg,zaf,zbx,Int.neg_mul]
theorem assoc(hn:n=2\/n=3\/n=4)(ha:ij!)(hb:eR! B)(hc:eR! C):jw (jw A B) C=jw A (jw B C):=by
 rcases hn with rfl | rfl | rfl
 ·obtain⟨a,b,c,d,rfl⟩:=z8E ha;obtain⟨e,f,g,h,rfl⟩:=z8E hb;obtain⟨i,j,k,l,rfl⟩:=z8E hc;simp only[zbw,_cG];and_intros<;>grind
 ·obtain⟨a1,a2,a3,a4,a5,a6,a7,a8,a9,rfl⟩:=z9o ha;obtain⟨b1,b2,b3,b4,b5,b6,b7,b8,b9,rfl⟩:=z9o hb;obtain⟨c1,c2,c3,c4,c5,c6,c7,c8,c9,rfl⟩:=z9o hc;simp only[zaI,_cG];and_intros<;>grind
 ·obtain⟨a1,a2,a3,a4,a5,a6,a7,a8,a9,a10,a11,a12,a13,ee,er,fP,rfl⟩:=z96 ha;obtain⟨b1,b2,b3,b4,b5,b6,b7,b8,b9,iH,iI,iJ,iK,iM,iN,iO,rfl⟩:=z96 hb;obtain⟨c1,c2,c3,c4,c5,c6,c7,c8,c9,pW,pX,pY,pZ,p6,p7,rc,rfl⟩:=z96 hc;simp only[zaT,_cG];and_intros<;>grind
end Pm
set_option maxRecDepth 1000000
set_option maxHeartbeats 40000000
namespace Pm
theorem dm2(a b c d A B C D:Int):d2 (a*A+(b*C+0)) (a*B+(b*D+0)) (c*A+(d*C+0)) (c*B+(d*D+0))=d2 a b c d*d2 A B C D:=by simp only[d2];grind
theorem dm3(a b c d e f g i j A B C D E F G I J:Int):d3 (a*A+(b*D+(c*G+0))) (a*B+(b*E+(c*I+0))) (a*C+(b*F+(c*J+0))) (d*A+(e*D+(f*G+0))) (d*B+(e*E+(f*I+0))) (d*C+(e*F+(f*J+0))) (g*A+(i*D+(j*G+0))) (g*B+(i*E+(j*I+0))) (g*C+(i*F+(j*J+0)))=aL! d e f g i j*d3 A B C D E F G I J:=by simp only[d3,d2];grind
theorem dm4(a b c d e f g i j k l m n o p q A B C D E F G I J K L M N Oo P Q:Int):d4 (a*A+(b*E+(c*J+(d*N+0)))) (a*B+(b*F+(c*K+(d*Oo+0)))) (a*C+(b*G+(c*L+(d*P+0)))) (a*D+(b*I+(c*M+(d*Q+0)))) (e*A+(f*E+(g*J+(i*N+0)))) (e*B+(f*F+(g*K+(i*Oo+0)))) (e*C+(f*G+(g*L+(i*P+0)))) (e*D+(f*I+(g*M+(i*Q+0)))) (j*A+(k*E+(l*J+(m*N+0)))) (j*B+(k*F+(l*K+(m*Oo+0)))) (j*C+(k*G+(l*L+(m*P+0)))) (j*D+(k*I+(l*M+(m*Q+0)))) (n*A+(o*E+(p*J+(q*N+0)))) (n*B+(o*F+(p*K+(q*Oo+0)))) (n*C+(o*G+(p*L+(q*P+0)))) (n*D+(o*I+(p*M+(q*Q+0))))=d4 a b c d e f g i j k l m n o p q*d4 A B C D E F G I J K L M N Oo P Q:=by simp only[d4,d3,d2];grind
theorem zdL(hn:n=2\/n=3\/n=4)(ha:ij!)(hb:eR! B):em! (jw A B)=em! A*em! B:=by
 rcases hn with rfl | rfl | rfl
 ·obtain⟨a,b,c,d,rfl⟩:=z8E ha;obtain⟨e,f,g,h,rfl⟩:=z8E hb;rw[zbw,zcb,zcb,zcb,dm2]
 ·obtain⟨a1,a2,a3,a4,a5,a6,a7,a8,a9,rfl⟩:=z9o ha;obtain⟨b1,b2,b3,b4,b5,b6,b7,b8,b9,rfl⟩:=z9o hb;rw[zaI,zaf 1,zaf 1,zaf 1,dm3]
 ·obtain⟨a1,a2,a3,a4,a5,a6,a7,a8,a9,a10,a11,a12,a13,ee,er,fP,rfl⟩:=z96 ha;obtain⟨b1,b2,b3,b4,b5,b6,b7,b8,b9,iH,iI,iJ,iK,iM,iN,iO,rfl⟩:=z96 hb;rw[zaT,zbx 0,zbx 0,zbx 0,dm4]
theorem zlK(hn:n=2\/n=3\/n=4)(ha:ij!)(hb:eR! B)(hv:J!=n):mv (jw A B) v=mv A (mv B v):=by
 rcases hn with rfl | rfl | rfl
 ·obtain⟨a,b,c,d,rfl⟩:=z8E ha;obtain⟨e,f,g,h,rfl⟩:=z8E hb;obtain⟨x,y,rfl⟩:=z8Q hv;simp only[zbw,mv,dot,_p,_ai,_b3,_a7,_cG];and_intros<;>grind
 ·obtain⟨a1,a2,a3,a4,a5,a6,a7,a8,a9,rfl⟩:=z9o ha;obtain⟨b1,b2,b3,b4,b5,b6,b7,b8,b9,rfl⟩:=z9o hb;obtain⟨x,y,z,rfl⟩:=z7i hv;simp only[zaI,mv,dot,_p,_ai,_b3,_aA,List.sum_nil,_a7,_cG];and_intros<;>grind
 ·obtain⟨a1,a2,a3,a4,a5,a6,a7,a8,a9,a10,a11,a12,a13,ee,er,fP,rfl⟩:=z96 ha;obtain⟨b1,b2,b3,b4,b5,b6,b7,b8,b9,iH,iI,iJ,iK,iM,iN,iO,rfl⟩:=z96 hb;obtain⟨x,y,z,u,rfl⟩:=z65 hv;simp only[zaT,mv,dot,_p,_dA,_ai,List.zipWith_nil_right,_b3,_aA,List.sum_nil,_a7,_cG];and_intros<;>grind
theorem zq4:one 2=[[1,0],[0,1]]:=rfl
theorem zo4:one 3=[[1,0,0],[0,1,0],[0,0,1]]:=rfl
theorem znl:one 4=[[1,0,0,0],[0,1,0,0],[0,0,1,0],[0,0,0,1]]:=rfl
theorem z9a(hn:n=2\/n=3\/n=4)(ha:ij!):jw bS! A=A/\jw A bS!=A:=by
 rcases hn with rfl | rfl | rfl
 ·obtain⟨a,b,c,d,rfl⟩:=z8E ha;rw[zq4,zbw,zbw];simp
 ·obtain⟨a1,a2,a3,a4,a5,a6,a7,a8,a9,rfl⟩:=z9o ha;rw[zo4,zaI,zaI];simp
 ·obtain⟨a1,a2,a3,a4,a5,a6,a7,a8,a9,a10,a11,a12,a13,ee,er,fP,rfl⟩:=z96 ha;rw[znl,zaT,zaT];simp
theorem zkC(hn:n=2\/n=3\/n=4)(hv:J!=n):mv bS! v=v:=by
 rcases hn with rfl | rfl | rfl
 ·obtain⟨x,y,rfl⟩:=z8Q hv;rw[zq4];simp[mv,dot]
 ·obtain⟨x,y,z,rfl⟩:=z7i hv;rw[zo4];simp[mv,dot]
 ·obtain⟨x,y,z,u,rfl⟩:=z65 hv;rw[znl];simp[mv,dot]
theorem zni(hn:n=2\/n=3\/n=4):em! bS!=1:=by
 rcases hn with rfl | rfl | rfl;·rfl
 ·rfl
 ·rfl
theorem bm2(a b c d t:Int)(ht:t=d2 a b c d)(h:t*t=1):jw [[t*d,-(t*b)],[-(t*c),t*a]] [[a,b],[c,d]]=one 2/\jw [[a,b],[c,d]] [[t*d,-(t*b)],[-(t*c),t*a]]=one 2:=by
 simp only[d2]at ht;rw[zq4,zbw,zbw];and_intros<;>grind
end Pm
set_option maxRecDepth 1000000
set_option maxHeartbeats 40000000
namespace Pm
theorem zsA(a b c d e f g h i:Int):d2 e f h i*a-d2 b c h i*d+d2 b c e f*g=aL! d e f g h i:=by simp only[d3,d2]<;>grind
theorem zso(a b c d e f g h i:Int):d2 e f h i*b-d2 b c h i*e+d2 b c e f*h=0:=by simp only[d2]<;>grind
theorem zsC(a b c d e f g h i:Int):d2 e f h i*c-d2 b c h i*f+d2 b c e f*i=0:=by simp only[d2]<;>grind
theorem zrb(a b c d e f g h i:Int):-d2 d f g i*a+d2 a c g i*d-d2 a c d f*g=0:=by simp only[d2]<;>grind
theorem zqV(a b c d e f g h i:Int):-d2 d f g i*b+d2 a c g i*e-d2 a c d f*h=aL! d e f g h i:=by simp only[d3,d2]<;>grind
theorem zsm(a b c d e f g h i:Int):-d2 d f g i*c+d2 a c g i*f-d2 a c d f*i=0:=by simp only[d2]<;>grind
theorem zsc(a b c d e f g h i:Int):d2 d e g h*a-d2 a b g h*d+d2 a b d e*g=0:=by simp only[d2]<;>grind
theorem zte(a b c d e f g h i:Int):d2 d e g h*b-d2 a b g h*e+d2 a b d e*h=0:=by simp only[d2]<;>grind
theorem zrW(a b c d e f g h i:Int):d2 d e g h*c-d2 a b g h*f+d2 a b d e*i=aL! d e f g h i:=by simp only[d3,d2]<;>grind
theorem zr2(a b c d e f g h i:Int):a*d2 e f h i-b*d2 d f g i+c*d2 d e g h=aL! d e f g h i:=by rfl<;>grind
theorem zqR(a b c d e f g h i:Int):-a*d2 b c h i+b*d2 a c g i-c*d2 a b g h=0:=by simp only[d2]<;>grind
theorem zta(a b c d e f g h i:Int):a*d2 b c e f-b*d2 a c d f+c*d2 a b d e=0:=by simp only[d2]<;>grind
theorem zsU(a b c d e f g h i:Int):d*d2 e f h i-e*d2 d f g i+f*d2 d e g h=0:=by simp only[d2]<;>grind
theorem zra(a b c d e f g h i:Int):-d*d2 b c h i+e*d2 a c g i-f*d2 a b g h=aL! d e f g h i:=by simp only[d3,d2]<;>grind
theorem zsh(a b c d e f g h i:Int):d*d2 b c e f-e*d2 a c d f+f*d2 a b d e=0:=by simp only[d2]<;>grind
theorem zsO(a b c d e f g h i:Int):g*d2 e f h i-h*d2 d f g i+i*d2 d e g h=0:=by simp only[d2]<;>grind
theorem zsk(a b c d e f g h i:Int):-g*d2 b c h i+h*d2 a c g i-i*d2 a b g h=0:=by simp only[d2]<;>grind
theorem zrJ(a b c d e f g h i:Int):g*d2 b c e f-h*d2 a c d f+i*d2 a b d e=aL! d e f g h i:=by simp only[d3,d2]<;>grind
theorem bm3(a b c d e f g h i t:Int)(ht:t=aL! d e f g h i)(h1:t*t=1):jw [[t*d2 e f h i,-(t*d2 b c h i),t*d2 b c e f],[-(t*d2 d f g i),t*d2 a c g i,-(t*d2 a c d f)],[t*d2 d e g h,-(t*d2 a b g h),t*d2 a b d e]] [[a,b,c],[d,e,f],[g,h,i]]=one 3/\jw [[a,b,c],[d,e,f],[g,h,i]] [[t*d2 e f h i,-(t*d2 b c h i),t*d2 b c e f],[-(t*d2 d f g i),t*d2 a c g i,-(t*d2 a c d f)],[t*d2 d e g h,-(t*d2 a b g h),t*d2 a b d e]]=one 3:=by
 rw[zo4,zaI,zaI];simp only[_a7,_cG];exact as! ⟨aQ! (by have c:=zsA a b c d e f g h i;grind) (by have c:=zso a b c d e f g h i;grind) (by have c:=zsC a b c d e f g h i;grind),aQ! (by have c:=zrb a b c d e f g h i;grind) (by have c:=zqV a b c d e f g h i;grind) (by have c:=zsm a b c d e f g h i;grind),aQ! (by have c:=zsc a b c d e f g h i;grind) (by have c:=zte a b c d e f g h i;grind) (by have c:=zrW a b c d e f g h i;grind)⟩ ⟨aQ! (by have c:=zr2 a b c d e f g h i;grind) (by have c:=zqR a b c d e f g h i;grind) (by have c:=zta a b c d e f g h i;grind),aQ! (by have c:=zsU a b c d e f g h i;grind) (by have c:=zra a b c d e f g h i;grind) (by have c:=zsh a b c d e f g h i;grind),aQ! (by have c:=zsO a b c d e f g h i;grind) (by have c:=zsk a b c d e f g h i;grind) (by have c:=zrJ a b c d e f g h i;grind)⟩
theorem zrn(a b c d e f g h i j l m n o p q:Int):d3 f g h j l m o p q*a-d3 b c d j l m o p q*e+d3 b c d f g h o p q*i-d3 b c d f g h j l m*n=d4 a b c d e f g h i j l m n o p q:=by simp only[d4,d3,d2]<;>grind
theorem zrr(a b c d e f g h i j l m n o p q:Int):d3 f g h j l m o p q*b-d3 b c d j l m o p q*f+d3 b c d f g h o p q*j-d3 b c d f g h j l m*o=0:=by simp only[d3,d2]<;>grind
theorem zsK(a b c d e f g h i j l m n o p q:Int):d3 f g h j l m o p q*c-d3 b c d j l m o p q*g+d3 b c d f g h o p q*l-d3 b c d f g h j l m*p=0:=by simp only[d3,d2]<;>grind
theorem zrZ(a b c d e f g h i j l m n o p q:Int):d3 f g h j l m o p q*d-d3 b c d j l m o p q*h+d3 b c d f g h o p q*m-d3 b c d f g h j l m*q=0:=by simp only[d3,d2]<;>grind
theorem zt4(a b c d e f g h i j l m n o p q:Int):-d3 e g h i l m n p q*a+cu! c d i l m n p q*e-cu! c d e g h n p q*i+cu! c d e g h i l m*n=0:=by simp only[d3,d2]<;>grind
theorem zs2(a b c d e f g h i j l m n o p q:Int):-d3 e g h i l m n p q*b+cu! c d i l m n p q*f-cu! c d e g h n p q*j+cu! c d e g h i l m*o=d4 a b c d e f g h i j l m n o p q:=by simp only[d4,d3,d2]<;>grind
theorem zsZ(a b c d e f g h i j l m n o p q:Int):-d3 e g h i l m n p q*c+cu! c d i l m n p q*g-cu! c d e g h n p q*l+cu! c d e g h i l m*p=0:=by simp only[d3,d2]<;>grind
theorem ztm(a b c d e f g h i j l m n o p q:Int):-d3 e g h i l m n p q*d+cu! c d i l m n p q*h-cu! c d e g h n p q*m+cu! c d e g h i l m*q=0:=by simp only[d3,d2]<;>grind
theorem zru(a b c d e f g h i j l m n o p q:Int):d3 e f h i j m n o q*a-cv! d i j m n o q*e+cv! d e f h n o q*i-cv! d e f h i j m*n=0:=by simp only[d3,d2]<;>grind
theorem zsG(a b c d e f g h i j l m n o p q:Int):d3 e f h i j m n o q*b-cv! d i j m n o q*f+cv! d e f h n o q*j-cv! d e f h i j m*o=0:=by simp only[d3,d2]<;>grind
theorem zsT(a b c d e f g h i j l m n o p q:Int):d3 e f h i j m n o q*c-cv! d i j m n o q*g+cv! d e f h n o q*l-cv! d e f h i j m*p=d4 a b c d e f g h i j l m n o p q:=by simp only[d4,d3,d2]<;>grind
theorem zqM(a b c d e f g h i j l m n o p q:Int):d3 e f h i j m n o q*d-cv! d i j m n o q*h+cv! d e f h n o q*m-cv! d e f h i j m*q=0:=by simp only[d3,d2]<;>grind
theorem zqZ(a b c d e f g h i j l m n o p q:Int):-d3 e f g i j l n o p*a+aL! i j l n o p*e-aL! e f g n o p*i+aL! e f g i j l*n=0:=by simp only[d3,d2]<;>grind
theorem zrf(a b c d e f g h i j l m n o p q:Int):-d3 e f g i j l n o p*b+aL! i j l n o p*f-aL! e f g n o p*j+aL! e f g i j l*o=0:=by simp only[d3,d2]<;>grind
theorem zt0(a b c d e f g h i j l m n o p q:Int):-d3 e f g i j l n o p*c+aL! i j l n o p*g-aL! e f g n o p*l+aL! e f g i j l*p=0:=by simp only[d3,d2]<;>grind
theorem zti(a b c d e f g h i j l m n o p q:Int):-d3 e f g i j l n o p*d+aL! i j l n o p*h-aL! e f g n o p*m+aL! e f g i j l*q=d4 a b c d e f g h i j l m n o p q:=by simp only[d4,d3,d2]<;>grind
theorem ztn(a b c d e f g h i j l m n o p q:Int):a*d3 f g h j l m o p q-b*d3 e g h i l m n p q+c*d3 e f h i j m n o q-d*d3 e f g i j l n o p=d4 a b c d e f g h i j l m n o p q:=by rfl<;>grind
theorem zsY(a b c d e f g h i j l m n o p q:Int):-a*d3 b c d j l m o p q+b*cu! c d i l m n p q-c*cv! d i j m n o q+d*aL! i j l n o p=0:=by simp only[d3,d2]<;>grind
theorem zrt(a b c d e f g h i j l m n o p q:Int):a*d3 b c d f g h o p q-b*cu! c d e g h n p q+c*cv! d e f h n o q-d*aL! e f g n o p=0:=by simp only[d3,d2]<;>grind
theorem zqU(a b c d e f g h i j l m n o p q:Int):-a*d3 b c d f g h j l m+b*cu! c d e g h i l m-c*cv! d e f h i j m+d*aL! e f g i j l=0:=by simp only[d3,d2]<;>grind
theorem zrS(a b c d e f g h i j l m n o p q:Int):e*d3 f g h j l m o p q-f*d3 e g h i l m n p q+g*d3 e f h i j m n o q-h*d3 e f g i j l n o p=0:=by simp only[d3,d2]<;>grind
theorem ztf(a b c d e f g h i j l m n o p q:Int):-e*d3 b c d j l m o p q+f*cu! c d i l m n p q-g*cv! d i j m n o q+h*aL! i j l n o p=d4 a b c d e f g h i j l m n o p q:=by simp only[d4,d3,d2]<;>grind
theorem zsP(a b c d e f g h i j l m n o p q:Int):e*d3 b c d f g h o p q-f*cu! c d e g h n p q+g*cv! d e f h n o q-h*aL! e f g n o p=0:=by simp only[d3,d2]<;>grind
theorem zrX(a b c d e f g h i j l m n o p q:Int):-e*d3 b c d f g h j l m+f*cu! c d e g h i l m-g*cv! d e f h i j m+h*aL! e f g i j l=0:=by simp only[d3,d2]<;>grind
theorem zsv(a b c d e f g h i j l m n o p q:Int):i*d3 f g h j l m o p q-j*d3 e g h i l m n p q+l*d3 e f h i j m n o q-m*d3 e f g i j l n o p=0:=by simp only[d3,d2]<;>grind
theorem zqY(a b c d e f g h i j l m n o p q:Int):-i*d3 b c d j l m o p q+j*cu! c d i l m n p q-l*cv! d i j m n o q+m*aL! i j l n o p=0:=by simp only[d3,d2]<;>grind
theorem zr5(a b c d e f g h i j l m n o p q:Int):i*d3 b c d f g h o p q-j*cu! c d e g h n p q+l*cv! d e f h n o q-m*aL! e f g n o p=d4 a b c d e f g h i j l m n o p q:=by simp only[d4,d3,d2]<;>grind
theorem zt5(a b c d e f g h i j l m n o p q:Int):-i*d3 b c d f g h j l m+j*cu! c d e g h i l m-l*cv! d e f h i j m+m*aL! e f g i j l=0:=by simp only[d3,d2]<;>grind
theorem zt9(a b c d e f g h i j l m n o p q:Int):n*d3 f g h j l m o p q-o*d3 e g h i l m n p q+p*d3 e f h i j m n o q-q*d3 e f g i j l n o p=0:=by simp only[d3,d2]<;>grind
theorem zrs(a b c d e f g h i j l m n o p q:Int):-n*d3 b c d j l m o p q+o*cu! c d i l m n p q-p*cv! d i j m n o q+q*aL! i j l n o p=0:=by simp only[d3,d2]<;>grind
theorem zr7(a b c d e f g h i j l m n o p q:Int):n*d3 b c d f g h o p q-o*cu! c d e g h n p q+p*cv! d e f h n o q-q*aL! e f g n o p=0:=by simp only[d3,d2]<;>grind
theorem zs0(a b c d e f g h i j l m n o p q:Int):-n*d3 b c d f g h j l m+o*cu! c d e g h i l m-p*cv! d e f h i j m+q*aL! e f g i j l=d4 a b c d e f g h i j l m n o p q:=by simp only[d4,d3,d2]<;>grind
theorem bm4(a b c d e f g h i j l m n o p q t:Int)(ht:t=d4 a b c d e f g h i j l m n o p q)(h1:t*t=1):jw [[t*d3 f g h j l m o p q,-(t*d3 b c d j l m o p q),t*d3 b c d f g h o p q,-(t*d3 b c d f g h j l m)],[-(t*d3 e g h i l m n p q),t*cu! c d i l m n p q,-(t*cu! c d e g h n p q),t*cu! c d e g h i l m],[t*d3 e f h i j m n o q,-(t*cv! d i j m n o q),t*cv! d e f h n o q,-(t*cv! d e f h i j m)],[-(t*d3 e f g i j l n o p),t*aL! i j l n o p,-(t*aL! e f g n o p),t*aL! e f g i j l]] [[a,b,c,d],[e,f,g,h],[i,j,l,m],[n,o,p,q]]=one 4/\jw [[a,b,c,d],[e,f,g,h],[i,j,l,m],[n,o,p,q]] [[t*d3 f g h j l m o p q,-(t*d3 b c d j l m o p q),t*d3 b c d f g h o p q,-(t*d3 b c d f g h j l m)],[-(t*d3 e g h i l m n p q),t*cu! c d i l m n p q,-(t*cu! c d e g h n p q),t*cu! c d e g h i l m],[t*d3 e f h i j m n o q,-(t*cv! d i j m n o q),t*cv! d e f h n o q,-(t*cv! d e f h i j m)],[-(t*d3 e f g i j l n o p),t*aL! i j l n o p,-(t*aL! e f g n o p),t*aL! e f g i j l]]=one 4:=by
 rw[znl,zaT,zaT];simp only[_a7,_cG];exact as! ⟨⟨(by have c:=zrn a b c d e f g h i j l m n o p q;grind),(by have c:=zrr a b c d e f g h i j l m n o p q;grind),(by have c:=zsK a b c d e f g h i j l m n o p q;grind),(by have c:=zrZ a b c d e f g h i j l m n o p q;grind)⟩,⟨(by have c:=zt4 a b c d e f g h i j l m n o p q;grind),(by have c:=zs2 a b c d e f g h i j l m n o p q;grind),(by have c:=zsZ a b c d e f g h i j l m n o p q;grind),(by have c:=ztm a b c d e f g h i j l m n o p q;grind)⟩,⟨(by have c:=zru a b c d e f g h i j l m n o p q;grind),(by have c:=zsG a b c d e f g h i j l m n o p q;grind),(by have c:=zsT a b c d e f g h i j l m n o p q;grind),(by have c:=zqM a b c d e f g h i j l m n o p q;grind)⟩,⟨(by have c:=zqZ a b c d e f g h i j l m n o p q;grind),(by have c:=zrf a b c d e f g h i j l m n o p q;grind),(by have c:=zt0 a b c d e f g h i j l m n o p q;grind),(by have c:=zti a b c d e f g h i j l m n o p q;grind)⟩⟩ ⟨⟨(by have c:=ztn a b c d e f g h i j l m n o p q;grind),(by have c:=zsY a b c d e f g h i j l m n o p q;grind),(by have c:=zrt a b c d e f g h i j l m n o p q;grind),(by have c:=zqU a b c d e f g h i j l m n o p q;grind)⟩,⟨(by have c:=zrS a b c d e f g h i j l m n o p q;grind),(by have c:=ztf a b c d e f g h i j l m n o p q;grind),(by have c:=zsP a b c d e f g h i j l m n o p q;grind),(by have c:=zrX a b c d e f g h i j l m n o p q;grind)⟩,⟨(by have c:=zsv a b c d e f g h i j l m n o p q;grind),(by have c:=zqY a b c d e f g h i j l m n o p q;grind),(by have c:=zr5 a b c d e f g h i j l m n o p q;grind),(by have c:=zt5 a b c d e f g h i j l m n o p q;grind)⟩,⟨(by have c:=zt9 a b c d e f g h i j l m n o p q;grind),(by have c:=zrs a b c d e f g h i j l m n o p q;grind),(by have c:=zr7 a b c d e f g h i j l m n o p q;grind),(by have c:=zs0 a b c d e f g h i j l m n o p q;grind)⟩⟩
abbrev Sz(n:Nat):j!:=n=2\/n=3\/n=4
theorem zdo(ha:ij!)(hb:eR! B):eR! (jw A B):=by
 refine⟨by simp[jw,yi,hb.len],cy! ?_⟩;obtain⟨j,_,rfl⟩:=jX!;simp[(show r! (yi B)=n from by simp[yi,hb.len])]
theorem z0Q(ha:ij!):eR! (gx! A):=by
 refine⟨by simp[back,ha.len],cy! ?_⟩;obtain⟨j,_,rfl⟩:=jX!;simp[ha.len]
theorem z9R(n:Nat):eR! bS!:=by
 refine⟨by simp[one],cy! ?_⟩;obtain⟨j,_,rfl⟩:=jX!;simp
def z08(A:Tb):j!:=em! A=1\/em! A=-1
theorem z08.sq(h:z08 A):em! A*em! A=1:=by rcases h with h | h<;>rw[h]<;>decide
theorem z6S(hn:a9!)(ha:ij!)(hf:z08 A):jw (gx! A) A=bS!/\jw A (gx! A)=bS!:=by
 have sq:=hf.sq;rcases hn with rfl | rfl | rfl
 ·obtain⟨a,b,c,d,rfl⟩:=z8E ha;rw[zcb]at sq;rw[zqT];exact bm2 a b c d _ rfl sq
 ·obtain⟨a1,a2,a3,a4,a5,a6,a7,a8,a9,rfl⟩:=z9o ha;rw[zaf 1]at sq;rw[zrL];exact bm3 _ _ _ _ _ _ _ _ _ _ rfl sq
 ·obtain⟨a1,a2,a3,a4,a5,a6,a7,a8,a9,a10,a11,a12,a13,ee,er,fP,rfl⟩:=z96 ha;rw[zbx 0]at sq;rw[zrg];exact bm4 _ _ _ _ _ _ _ _ _ _ _ _ _ _ _ _ _ rfl sq
theorem zhg(hn:a9!)(ha:ij!)(hb:eR! B)(hf:z08 A)(hg:z08 B):z08 (jw A B):=by
 unfold z08;rw[(zdL hn ha hb)];rcases hf with e | e<;>rcases hg with f | f<;>rw[e,f]<;>decide
theorem zmg(hn:a9!)(ha:ij!)(hf:z08 A)(hv:J!=n):mv (gx! A) (mv A v)=v:=by rw[<- zlK hn (z0Q ha) ha hv,(z6S hn ha hf).1,zkC hn hv]
def Bd(m:Nat)(T:Tb):j!:=∀r∈T,∀x∈r,dc! m
theorem zcm{a b:Int} (ha:a.natAbs<2 ^ m)(hb:b.natAbs<2 ^ k):bA! (a*b)<2 ^ (m+k):=by
 rw[_ax,_bg];exact _b9 ha hb
theorem zmx: ∀{xs:List Int},(∀x∈xs,dc! m)->v!<=4->xs.sum.natAbs<2 ^ (m+2):=by
 intro xs h hl;cases xs with
 | nil=>exact _cn _ | cons x xs=>
  have h1:=h x (by simp);have h2:=(show ∀ys:List Int,(∀x∈ys,dc! m)->ys.sum.natAbs<=dr!*2 ^ m from by
  intro ys;induction ys with
  | nil=>simp | cons y ys ih=>
   intro h;have h1:=h y (by simp);have h2:=ih (ap! (h x (by simp[hx])));simp only[_aA,_j,Nat.add_mul];omega) xs (cO! (h y (by simp[hy])));simp only[_j]at hl;have h4:v!*2 ^ m<=3*2 ^ m:=_ay _ (by omega);simp only[_aA,_bg];omega
theorem zero_lt_two(m:Nat):bA! (h! 0)<2 ^ m:=_cn _
theorem z5K{r:g!}(hr:∀x∈r,dc! m)(j:Nat):bA! (cC! j)<2 ^ m:=by
 by_cases h:j<aE!
 ·rw[List.getD,_b h];exact hr _ (_K _)
 ·rw[List.getD,_J (by omega)];exact zero_lt_two m
theorem zlN(h:Bd m T):Bd m (yi T):=λr hr x hx=>by
 obtain⟨j,_,rfl⟩:=jX!;obtain⟨q,hq,rfl⟩:=jY!;exact z5K (h q hq) j
theorem z3m(h:Bd m T)(i j:Nat):Bd m (ht! i):=λr hr x hx=>by
 obtain⟨q,hq,rfl⟩:=jX!;exact h q (mx! hq _R _az) x (mx! hx _R _az)
theorem z5h(hi:i<aY!):r! (ht! i)=aY!-1:=by simp[z17];omega
theorem zgi(i j:Nat):bA! (sg i j)=1:=by unfold sg;split<;>rfl
theorem zdF: ∀(k:Nat) (T:Tb),Bd m T->1<=aY!->aY!<=4->bA! (det k T)<2 ^ (aY!*m+2*aY!)
 | 0,T,_,_,_=>zero_lt_two _ | k+1,T,h,h1,h4=>by
  rw[det];split
  ·rename_i e;rw[e];exact _i (z5K (by
    rw[List.getD,_b (by omega)];exact h _ (_K _)) 0) (_B (by decide) (by omega))
  ·rw[(show aY!*m+2*aY!=(aY!*m+2*aY!-2)+2 from by omega)];refine zmx (ap! ?_) (by simp;exact h4);obtain⟨j,hj,rfl⟩:=jY!;have hw:=z5h (T:=T) (i:=0) (j:=j) (by omega);have b2:=zdF k (ht! 0) (z3m h 0 j) (by omega) (by omega);rw[hw]at b2;rw[_ax,_ax,zgi,Nat.one_mul];have b3:=_b9 (show bA! (bg! (jo! 0) j)<2 ^ m from by
    refine z5K ?_ j;rw[List.getD,_b (by omega)];exact h _ (_K _)) b2;rw[<- _bg]at b3;refine _i b3 (_B (by decide) ?_);have:(aY!-1)*m=aY!*m-m:=by rw[Nat.sub_mul];omega
   have h5 := Nat.le_mul_of_pos_left m h1;omega
theorem zlY(h:Bd m A)(h1:2<=qG!)(h4:qG!<=4)(hf:z08 A):Bd (3*m+6) (gx! A):=λr hr x hx=>by
 obtain⟨i,hi,rfl⟩:=jX!;obtain⟨j,hj,rfl⟩:=jY!;have hw:=z5h (j:=i) (by simpa using hj);rw[_ax,_ax,zgi,(show mr! A=1 from by rcases hf with e | e<;>rw[e]<;>rfl),Nat.one_mul];refine _i (zdF 4 (z17 A j i) (z3m h j i) (by omega) (by omega)) (_B (by decide) ?_);rw[hw];have:(qG!-1)*m<=3*m:=_ay _ (by omega);omega
theorem Tab.le(h:gK!)(hn:a9!):∀r∈T,aE!<=4:=cy! (by rw[jb! r hr];omega)
open L2 (maxL minL maxL_ge maxL_mem minL_le minL_mem)
inductive Rl where | nx | le | al | tu deriving DecidableEq
structure Lot(n:Nat)(v:g!):j! where
 sz:a9!
 len:J!=n
 nn:∀x∈v,0<=x
 pos:∃x∈v,0<x
noncomputable def nz(v:g!):g!:=v.filter λx=>cr! x 0
noncomputable def ended(v:g!):Bool:=bi! (g9! v=1)
noncomputable def gp(v:g!):Nat:=qH! ie!
noncomputable def others(v:g!):g!:=v.take a8!++[0]++v.drop (a8!+1)
noncomputable def lp(v:g!):Nat:=qH! (iJ! v)
noncomputable def wG(v:g!)(p:Nat):jl!:=fW! pw! (λi=>cr! i p)
def deal:Rl->g!->Nat×jl!
 | .nx,v=>((cQ!).idxOf g6!,[a8!]) | .le,v=>(lp cQ!,[a8!]) | .al,v=>(db!,wG v db!) | .tu,v=>(0,af! fp! 0 [] (wG v 0))
noncomputable def yO(v:g!)(d:Nat×jl!):g!:=aS! J! (λi=>ai! (i∈d.2) (bT! / bp! d.1) 0)
def rot{α:cd!}(xs:eV!):eV!:=k3! 1++mV! 1
noncomputable def mvd(r:Rl)(xs:eV!):eV!:=af! r .tu (rot xs) xs
noncomputable def left(v qs:g!)(b:Nat):g!:=ks! (λx q=>x-q*fm!) v qs
noncomputable def stp(r:Rl)(v:g!):g!:=gO! (kY! aH!)
noncomputable def xi(b:Nat)(line:g!)(q:Int):g!:=line.take b++[line.getD b 0+q]++line.drop (b+1)
noncomputable def z79(r:Rl)(b:Nat)(qs:g!):Tb:=px! (gO! (xi b line q)) pB! qs
noncomputable def jC(r:Rl)(v:g!):Tb:=z79 r aH! hb!
@[simp] theorem zms:dot [] []=0:=V!
@[simp] theorem dot_cons(a b:Int) (r v:g!):dot (a::r) (b::v)=a*b+eM! v:=rfl
theorem qc:∀{r c r' c':List Int},aE!=c.length->dot (r++r') (c++c')=eM! c+dot r' c'
 | [],[],_,_,_=>by simp | a::r,b::c,r',c',h=>by
  simp only[_bA,dot_cons,(qc (r':=r') (c':=c') (by simpa using h))];lia | [],_::_,_,_,h=>by simp at h | _::_,[],_,_,h=>by simp at h
noncomputable def zhw(z:Int)(c q:g!):g!:=ks! (λx q=>x-q*z) c q
theorem zch(z:Int):∀{r c q:List Int},aE!=c.length->c.length=q.length->eM! (zhw z c q)=eM! c-eM! q*z
 | [],[],[],_,_=>by simp[zhw] | a::r,b::c,p::q,h1,h2=>by
  have:=zch z (by simpa using h1) (by simpa using h2);simp only[zhw]at this;simp only[zhw,_ai,dot_cons,this];grind | [],_::_,_,h,_=>by simp at h | _::_,[],_,h,_=>by simp at h | _,[],_::_,_,h=>by simp at h | _,_::_,[],_,h=>by simp at h
theorem zdJ:∀{r c:List Int},(∀x∈r,0<=x)->(∀x∈c,0<=x)->0<=eM! c
 | [],[],_,_=>by simp | [],_::_,_,_=>by simp[dot] | _::_,[],_,_=>by simp[dot] | a::r,b::c,h1,h2=>by
  have i:=zdJ (r:=r) (c:=c) (ap! (h1 x (by simp[hx]))) (ap! (h2 x (by simp[hx])));have j:=_be (h1 a (by simp)) (h2 b (by simp));simp only[dot_cons];lia
theorem zmW(h:aE!=c.length):dot (rot r) (rot c)=eM! c:=by match r,c,h with
 | [],[],_=>rfl | a::r,b::c,h=>
  show dot (r++[a]) (c++[b])=_;rw[qc (by simpa using h)];simp only[dot_cons,zms];lia | [],_::_,h=>simp at h | _::_,[],h=>simp at h
theorem znP(l:Rl)(h:aE!=c.length):dot (mvd l r) (mvd l c)=eM! c:=by
 unfold mvd;split;·exact zmW h
 ·rfl
theorem zhb{xs:eV!}:x∈rot xs ↔ x∈xs:=by cases xs with
 | nil=>simp[rot] | cons a xs=>simp[rot,or_comm]
theorem z36{xs:eV!} : x∈mvd l xs ↔ x∈xs:=by
 unfold mvd;split;·exact zhb
 ·rfl
theorem zlW(xs:eV!):r! (rot xs)=v!:=by cases xs<;>simp[rot]
theorem z9V(xs:eV!):r! (mvd l xs)=v!:=by
 unfold mvd;split;·exact zlW xs
 ·rfl
structure Qs(v:g!)(b:Nat)(qs:g!):j! where
 lt:b<J!
 len:jH!=J!
 zero:E! qs b 0
 nn:∀q∈qs,0<=q
 fit:∀i,0<=bT!-qs.getD i 0*fm!
 pos:(∀q∈qs,q=0)\/0<fm!
theorem z5f{α:cd!}{v:eV!} (h:b<J!):∃v1 z v2,v=v1++z::v2/\oe!=b:= ⟨v.take b,v[b],v.drop (b+1),by rw[<- _bD h,_b1],by simp;lia⟩
noncomputable def z9Y(b:Nat)(qs r:g!):g!:=r.set b (cC! b+eM! qs)
theorem getD_at{α:cd!}{v1 v2:eV!}{z d:α} (h:oe!=b):(v1++z::v2).getD b d=z:=by
 subst h;simp[List.getD]
theorem Qs.split{v qs r:g!} (h:Qs v b qs)(hr:aE!=J!):∃v1 z v2 q1 q2 r1 y r2,v=v1++z::v2/\qs=q1++0::q2/\r=r1++y::r2/\oe!=b/\q1.length=b/\r1.length=b/\q2.length=v2.length/\r2.length=v2.length:=by
 obtain⟨v1,z,v2,rfl,e1⟩:=z5f h.lt;obtain⟨q1,p,q2,rfl,e2⟩:=z5f (by rw[h.len];exact h.lt);obtain⟨r1,y,r2,rfl,e3⟩:=z5f (by rw[hr];exact h.lt);have hz:=h.zero;rw[<- e2]at hz;simp at hz;subst hz;have l1:=h.len;simp at l1 hr;exact⟨v1,z,v2,q1,q2,r1,y,r2,rfl,rfl,rfl,e1,e2,e3,by lia,by lia⟩
theorem z8i(h1:oe!=b) (h2:q1.length=b):left (v1++z::v2) (q1++0::q2) b=zhw z v1 q1++z::zhw z v2 q2:=by
 unfold left zhw;rw[getD_at h1,List.zipWith_append (by lia)];simp
theorem zlQ(h:Qs v b qs)(hr:aE!=J!):dot (z9Y b qs r) (fD! qs b)=eM! v:=by
 obtain⟨v1,z,v2,q1,q2,r1,y,r2,rfl,rfl,rfl,e1,e2,e3,e4,e5⟩:=h.split hr;rw[z8i e1 e2];unfold z9Y;rw[<- e3,List.set_append_right _ _ (by lia)];simp only[_dB,_C];rw[qc (by simp[zhw];lia),qc (by lia),qc (by lia)];simp only[dot_cons];rw[zch z (by lia) (by lia),zch z (by lia) (by lia)];grind
theorem uk(h:jH!=J!):r! (fD! qs b)=J!:=by simp[left,h]
theorem zgu(h:Qs v b qs):∀x∈fD! qs b,0<=x:=ap! (by
 obtain⟨i,hi,e⟩:=oN!;have:=h.fit i;have hl:=uk (b:=b) h.len;have h1:eZ!:=by lia
 simp only[List.getD,_b h1,_b (by rw[h.len];exact h1),_aB]at this;rw[<- e];simpa[left,List.getD] using this)
structure ztC(B:Int)(r c:g!)(x:Int):j! where
 len:aE!=c.length
 nn:∀y∈r,0<=y/\y<=B
 dot:eM! c=x
theorem zjN(l:Rl) (h:Qs v b qs) (hx:x<=B) (I:ztC B r v x):ztC B (mvd l (z9Y b qs r)) (mvd l (fD! qs b)) x:=by
 have hd:=zlQ h k6!;have rl:r! (z9Y b qs r)=aE!:=by simp[z9Y]
 have ll:=uk (b:=b) h.len;refine⟨by rw[z9V,z9V,rl,ll,I.len],cO! ?_,by rw[znP l (by rw[rl,ll,I.len]),hd,I.dot]⟩;rw[z36]at hy;have ln:=zgu h;obtain⟨v1,z,v2,q1,q2,r1,u,r2,rfl,rfl,rfl,e1,e2,e3,e4,e5⟩:=h.split k6!;rw[z8i e1 e2]at hd ln;unfold z9Y at hy hd;rw[(show (r1++u::r2).set b (bg! (r1++u::r2) b+ph! (r1++u::r2) (q1++0::q2))=r1++(u+ph! (r1++u::r2) (q1++0::q2))::r2 from by
  rw[getD_at e3,<- e3,List.set_append_right _ _ (by lia)];simp only[_dB,_C])]at hy hd;have dq := zdJ (ap! (I.nn x hx).1) fw!;have hu:=I.nn u (by simp);rcases mX! hy with hy | hy;·exact I.nn y (by simp[hy])
 ·rcases d2! hy with rfl | hy
  ·rcases h.pos with h0 | h0
   ·have dz:ph! (r1++u::r2) (q1++0::q2)=0:=(show ∀(r q:List Int),(∀x∈q,x=0)->ph! r q=0 from by
      intro r;induction r with
      | nil=>intro q _;cases q<;>simp[Pm.dot] | cons a r ih=>
       intro q hq;cases q with
       | nil=>simp[Pm.dot] | cons p q=>rw[dot_cons,ih q (ap! (hq x (by simp[hx]))),hq p (by simp)];simp) _ _ h0;lia
   ·rw[getD_at e1]at h0;rw[qc (by simp[zhw];lia),dot_cons]at hd;have n1:0<=ph! r1 (zhw z v1 q1):=zdJ (ap! (I.nn x (by simp[hx])).1) (ap! (ln x (by simp[hx])));have n2:0<=ph! r2 (zhw z v2 q2):=zdJ (ap! (I.nn x (by simp[hx])).1) (ap! (ln x (by simp[hx])));have dt:=I.dot;generalize ph! (r1++u::r2) (q1++0::q2)=dd at *;have m1:(u+dd)*1<=(u+dd)*z:=_cg (by lia) (by lia);lia
  ·exact I.nn y (by simp[hy])
theorem za7(xs:eV!):mvd .tu xs=rot xs:=by rfl
theorem z88(h:r≠.tu)(xs:eV!):gO! xs=xs:=by simp[mvd,h]
theorem ziH(P:Tb->j!)(r:Rl)(hn:a9!)(hq:jH!=n)(hb:b<n)(hz:E! qs b 0) (ox:∀q,P [[1,0],[q,1]])(oy:∀q,P [[1,q],[0,1]]) (iP:∀p q,P [[1,0,0],[p,1,0],[q,0,1]])(oz:∀p q,P [[1,p,0],[0,1,0],[0,q,1]])(oA:∀p q,P [[1,0,p],[0,1,q],[0,0,1]]) (oB:∀p q s,P [[1,0,0,0],[p,1,0,0],[q,0,1,0],[s,0,0,1]])(oC:∀p q s,P [[1,p,0,0],[0,1,0,0],[0,q,1,0],[0,s,0,1]]) (oE:∀p q s,P [[1,0,p,0],[0,1,q,0],[0,0,1,0],[0,0,s,1]])(oF:∀p q s,P [[1,0,0,p],[0,1,0,q],[0,0,1,s],[0,0,0,1]]) (t:∀T,gK!->P T->P (od! rot)):P (z79 r b qs):=by
 have main:P (px! (xi b line q) pB! qs):=by
  rcases hn with rfl | rfl | rfl
  ·obtain⟨x,y,rfl⟩:=z8Q hq;match b,hb with
   | 0,_=>simp at hz;subst hz;simpa[one,xi,List.range,List.range.loop] using ox y | 1,_=>simp at hz;subst hz;simpa[one,xi,List.range,List.range.loop] using oy x
  ·obtain⟨x,y,z,rfl⟩:=z7i hq;match b,hb with
   | 0,_=>simp at hz;subst hz;simpa[one,xi,List.range,List.range.loop] using iP y z | 1,_=>simp at hz;subst hz;simpa[one,xi,List.range,List.range.loop] using oz x z | 2,_=>simp at hz;subst hz;simpa[one,xi,List.range,List.range.loop] using oA x y
  ·obtain⟨x,y,z,w,rfl⟩:=z65 hq;match b,hb with
   | 0,_=>simp at hz;subst hz;simpa[one,xi,List.range,List.range.loop] using oB y z w | 1,_=>simp at hz;subst hz;simpa[one,xi,List.range,List.range.loop] using oC x z w | 2,_=>simp at hz;subst hz;simpa[one,xi,List.range,List.range.loop] using oE x y w | 3,_=>simp at hz;subst hz;simpa[one,xi,List.range,List.range.loop] using oF x y z
 by_cases hr:r=.tu
 ·subst hr;have:z79 .tu b qs=(px! (xi b line q) pB! qs).map rot:=by
   unfold z79;rw[_bf];rfl
  rw[this];exact t _ (by
  refine⟨by simp[one,hq],λl hl=>?_⟩;obtain⟨i,hi,rfl⟩:=gu! hl;simp at hi;simp[xi,one];lia) main
 ·rw[(show z79 r b qs=px! (xi b line q) pB! qs from by
   unfold z79;simp only[z88 hr])];exact main
theorem zke(r:Rl)(hn:a9!)(hq:jH!=n)(hb:b<n):eR! (z79 r b qs):=by
 refine⟨by simp[z79,one,hq],λl hl=>?_⟩;obtain⟨i,hi,rfl⟩:=gu! hl;simp[z79,z9V,xi,one];lia
theorem zkc(hn:a9!)(h:gK!)(hf:z08 T):z08 (od! rot):=by
 unfold z08 at hf ⊢;rcases hn with rfl | rfl | rfl
 ·obtain⟨a,b,c,d,rfl⟩:=z8E h;simp only[_p,_dA,rot,List.drop_one,List.tail_cons,_cp,List.take_zero,_bA,_as];rw[zcb]at hf ⊢;simp only[d2]at hf ⊢;grind
 ·obtain⟨a,b,c,d,e,f,g,i,j,rfl⟩:=z9o h;simp only[_p,_dA,rot,List.drop_one,List.tail_cons,_cp,List.take_zero,_bA,_as];rw[zaf 1]at hf ⊢;simp only[d3,d2]at hf ⊢;grind
 ·obtain⟨a,b,c,d,e,f,g,i,j,k,l,m,n,o,p,q,rfl⟩:=z96 h;simp only[_p,_dA,rot,List.drop_one,List.tail_cons,_cp,List.take_zero,_bA,_as];rw[zbx 0]at hf ⊢;have e1:d4 b c d a f g i e k l m j o p q n=- d4 a b c d e f g i j k l m n o p q:=by simp only[d4,d3,d2];grind
  lia
theorem zh3(r:Rl)(hn:a9!)(hq:jH!=n)(hb:b<n)(hz:E! qs b 0):z08 (z79 r b qs):=by
 refine ziH z08 r hn hq hb hz ?_ ?_ ?_ ?_ ?_ ?_ ?_ ?_ ?_ λT hT hf=>zkc hn hT hf;·intro q;unfold z08;rw[zcb];simp[d2]
 ·intro q;unfold z08;rw[zcb];simp[d2]
 ·intro p q;unfold z08;rw[zaf 1];simp[d3,d2]
 ·intro p q;unfold z08;rw[zaf 1];simp[d3,d2]
 ·intro p q;unfold z08;rw[zaf 1];simp[d3,d2]
 ·intro p q s;unfold z08;rw[zbx 0];simp[d4,d3,d2]
 ·intro p q s;unfold z08;rw[zbx 0];simp[d4,d3,d2]
 ·intro p q s;unfold z08;rw[zbx 0];simp[d4,d3,d2]
 ·intro p q s;unfold z08;rw[zbx 0];simp[d4,d3,d2]
noncomputable def z5l(T:Tb)(r:g!):g!:=(yi T).map (dot r)
theorem z1P(hn:a9!)(ha:ij!)(ht:gK!):jw A T=A.map (z5l T):=by
 rcases hn with rfl | rfl | rfl
 ·obtain⟨a,b,c,d,rfl⟩:=z8E ha;obtain⟨e,f,g,h,rfl⟩:=z8E ht;rfl
 ·obtain⟨a1,a2,a3,a4,a5,a6,a7,a8,a9,rfl⟩:=z9o ha;obtain⟨b1,b2,b3,b4,b5,b6,b7,b8,b9,rfl⟩:=z9o ht;rfl
 ·obtain⟨a1,a2,a3,a4,a5,a6,a7,a8,a9,a10,a11,a12,a13,ee,er,fP,rfl⟩:=z96 ha;obtain⟨b1,b2,b3,b4,b5,b6,b7,b8,b9,iH,iI,iJ,iK,iM,iN,iO,rfl⟩:=z96 ht;rfl
theorem zjD(hn:a9!)(h:gK!):z5l (od! rot) r=rot (z5l T r):=by
 rcases hn with rfl | rfl | rfl
 ·obtain⟨a,b,c,d,rfl⟩:=z8E h;rfl
 ·obtain⟨a,b,c,d,e,f,g,i,j,rfl⟩:=z9o h;rfl
 ·obtain⟨a,b,c,d,e,f,g,i,j,k,l,m,n,o,p,q,rfl⟩:=z96 h;rfl
theorem zi2(r:Rl)(hn:a9!)(hq:jH!=n)(hb:b<n)(hz:E! qs b 0)(hr:row.length=n):z5l (z79 r b qs) row=gO! (z9Y b qs row):=by
 have main:z5l (px! (xi b line q) pB! qs) row=z9Y b qs row:=by
  rcases hn with rfl | rfl | rfl
  ·obtain⟨x,y,rfl⟩:=z8Q hq;obtain⟨x',y',rfl⟩:=z8Q hr;match b,hb with
   | 0,_=>simp at hz;subst hz;simp[one,xi,List.range,List.range.loop,z5l,yi,z9Y,dot] | 1,_=>simp at hz;subst hz;simp[one,xi,List.range,List.range.loop,z5l,yi,z9Y,dot];try lia
  ·obtain⟨x,y,z,rfl⟩:=z7i hq;obtain⟨x',y',z',rfl⟩:=z7i hr;match b,hb with
   | 0,_=>simp at hz;subst hz;simp[one,xi,List.range,List.range.loop,z5l,yi,z9Y,dot]<;>try lia | 1,_=>simp at hz;subst hz;simp[one,xi,List.range,List.range.loop,z5l,yi,z9Y,dot]<;>try lia | 2,_=>simp at hz;subst hz;simp[one,xi,List.range,List.range.loop,z5l,yi,z9Y,dot]<;>try lia
  ·obtain⟨x,y,z,w,rfl⟩:=z65 hq;obtain⟨x',y',z',w',rfl⟩:=z65 hr;match b,hb with
   | 0,_=>simp at hz;subst hz;simp[one,xi,List.range,List.range.loop,z5l,yi,z9Y,dot]<;>try lia | 1,_=>simp at hz;subst hz;simp[one,xi,List.range,List.range.loop,z5l,yi,z9Y,dot]<;>try lia | 2,_=>simp at hz;subst hz;simp[one,xi,List.range,List.range.loop,z5l,yi,z9Y,dot]<;>try lia | 3,_=>simp at hz;subst hz;simp[one,xi,List.range,List.range.loop,z5l,yi,z9Y,dot]<;>try lia
 by_cases h:r=.tu
 ·subst h;have e:z79 .tu b qs=(px! (xi b line q) pB! qs).map rot:=by
   unfold z79;rw[_bf];rfl
  rw[e,zjD hn (by
  refine⟨by simp[one,hq],λl hl=>?_⟩;obtain⟨i,hi,rfl⟩:=gu! hl;simp at hi;simp[xi,one];lia),main,za7]
 ·rw[(show z79 r b qs=px! (xi b line q) pB! qs from by
   unfold z79;simp only[z88 h]),main,z88 h]
theorem uN: x∈nz v ↔ x∈v/\x≠0:=by simp[nz]
theorem getD_mem{v:g!} (h:eZ!):bT!∈v:=by simp[_b h]
theorem vS{v:g!}(h:∀x∈v,0<=x)(i:Nat):0<=bT!:=by
 by_cases hi:eZ!;·exact h _ (gZ! hi)
 ·simp[_J (qI! hi)]
theorem zaY{v:g!} (h:x∈v):qH! x<J!/\bp! (qH! x)=x:=by
 have hl:=List.idxOf_lt_length_of_mem h;exact⟨hl,by simp[_b hl,_cF hl]⟩
theorem Lot.ne(h:a2!):a4! v:=λz=>by
 obtain⟨x,hx,_⟩:=h.pos;rw[z]at hx;simp at hx
theorem Lot.nzne(h:a2!):nz v≠[]:=λz=>by
 obtain⟨x,hx,h0⟩:=h.pos;have := qJ! ⟨hx,by lia⟩;rw[z]at this;simp at this
theorem zcx(h:nz v≠[]):db!<J!/\bp! db!=iJ! v/\iJ! v≠0:=by
 have m:=rO! h;have:=zaY m.1;exact aQ! (i7!).1 (i7!).2 m.2
theorem zcy(h:a4! v):a8!<J!/\bp! a8!=ie!:=zaY (kn! h)
theorem others_eq(h:a4! v):cQ!=v.set a8! 0:=by
 unfold others;rw[_bT,_h ((zcy h).1)];simp
theorem uc(h:a4! v)(i:Nat):bg! cQ! i=af! i a8! 0 bT!:=by
 rw[others_eq h];by_cases e:i=a8!
 ·subst e;simp[((zcy h).1)]
 ·simp[e,_ab (_bM e)]
theorem wx(h:a4! v):r! cQ!=J!:=by rw[others_eq h];simp
theorem zhe:∀{v:List Int}{p:Nat},g9! v≠1->bp! p≠0->∃j,j≠p/\j<J!/\bp! j≠0:=by
 intro v p he hp;apply _X;intro hn;apply he;obtain⟨v1,z,v2,rfl,e1⟩:=z5f (show p<J! from by
  apply _X;exact λz=>hp (by simp[_J (qI! z)]));rw[getD_at e1]at hp;have g2:v2.filter (λx=>cr! x 0)=[]:=_bk.mpr (ap! (by simp[(ap! (by
  obtain⟨j,hj,rfl⟩:=oN!;apply _X;refine λz0=>hn ⟨oe!+1+j,by lia,by simp;lia,?_⟩;rw[List.getD,(show E! (v1++z::v2) (oe!+1+j) (v2[j]) from by rw[_bu (by lia),show oe!+1+j-oe!=j+1 by lia,_d,_b hj])];simpa using z0):∀x∈v2,x=0) x hx]))
 simp only[nz,List.filter_append,_aC,(_bk.mpr (ap! (by simp[(ap! (by
  obtain⟨j,hj,rfl⟩:=oN!;apply _X;intro z0;exact hn ⟨j,by lia,by simp;lia,by simpa[_G hj,_b hj] using z0⟩):∀x∈v1,x=0) x hx])):v1.filter (λx=>cr! x 0)=[]),g2];simp[hp]
theorem z8D(he:ed!):g9! v≠1:=by simpa[ended] using he
structure Dl(v:g!)(b:Nat)(dv:jl!):j! where
 lt:b<J!
 nb:b∉dv
 pos:dv=[]\/0<fm!
theorem vX: i∈wG v p ↔ eZ!/\i≠p:=by simp[wG]
theorem zfE(h:a2!) (hb:b<J!)(h0:bg! cQ! b≠0):Dl v b [a8!]/\0<fm!/\fm!<=bp! a8!:=by
 rw[uc ew!]at h0;have p0:0<fm!:=by have:=vS fw! b;lia
 refine aQ! ⟨hb,by simpa using (λe=>by rw[_h e]at h0;exact h0 rfl),R! p0⟩ p0 ?_;rw[(zcy ew!).2];exact n0! _ (gZ! hb)
theorem jK(h:a2!)(he:ed!):nz cQ!≠[]:=by
 have mx:0<ie!:=by
  obtain⟨x,hx,h0⟩:=h.pos;have:=n0! x hx;lia
 obtain⟨j,h1,h2,h3⟩:=zhe (z8D he) (by rw[(zcy ew!).2];lia);intro z;have := qJ! ⟨by
  have:=gZ! (by rw[wx ew!];exact h2);rw[uc ew!,_q h1]at this;exact this,h3⟩;rw[z]at this;simp at this
theorem uH(r:Rl)(h:a2!)(he:ed!):Dl v aH! (l9!).2:=by cases r with
 | nx=>
  have a:=zaY (kn! (λz=>by
   have:=wx ew!;rw[z]at this;exact h.ne (_aV.mp this.symm):a4! cQ!));refine (zfE h (by rw[<- wx ew!];exact a.1) ?_).1;show bg! cQ! ((cQ!).idxOf g6!)≠0;have m:=rO! (jK h he);have m1:=n0! _ m.1;have m2:0<=iJ! cQ!:=by
   obtain⟨i,hi,e⟩:=gu! m.1;have:=uc ew! i;rw[(show bg! cQ! i=iJ! cQ! from by simp[_b hi,e])]at this;rw[this];split;·lia
   ·exact vS fw! i
  lia | le=>
  have a:=zcx (jK h he);refine (zfE h (by rw[<- wx ew!];exact a.1) ?_).1;show bg! cQ! (lp cQ!)≠0;rw[a.2.1];exact a.2.2 | al=>
  have a:=zcx qK!;refine⟨a.1,by simp[deal,vX],R! ?_⟩;show 0<bp! db!;have:=vS fw! db!;lia | tu=>
  refine aQ! (show 0<J! from by have:=h.sz;rw[h.len];lia) ?_ ?_
  ·show 0∉(af! fp! 0 [] (wG v 0));split<;>simp[vX]
  ·show (af! fp! 0 [] (wG v 0))=[]\/0<fp!;split;·exact cT!
   ·have:=vS fw! 0;exact R! (by lia)
theorem yZ(v:g!)(d:Nat×jl!):r! (yO v d)=J!:=by simp[yO]
theorem zeX(v:g!)(d:Nat×jl!)(i:Nat):bg! (yO v d) i=ai! (eZ!/\i∈d.2) (bT! / bp! d.1) 0:=by
 unfold yO;by_cases hi:eZ!;·simp[hi]
 ·simp[hi]
theorem qS(i:Nat):bT!-bg! (yO v d) i*bp! d.1=ai! (eZ!/\i∈d.2) (bT! % bp! d.1) bT!:=by
 rw[zeX];split
 ·have:=_a3 bT! (bp! d.1);have e:=_dC (bT! / bp! d.1) (bp! d.1);lia
 ·lia
theorem zeY(hv:∀x∈v,0<=x)(h:Dl v d.1 d.2):Qs v d.1 (yO v d):=by
 refine⟨h.lt,yZ _ _,?_,λq hq=>?_,λi=>?_,?_⟩;·simp[yO,h.lt,h.nb]
 ·obtain⟨i,hi,rfl⟩:=gu! hq;simp only[yO,_dn,List.getElem_range];split;·exact Int.ediv_nonneg (vS hv _) (vS hv _)
  ·lia
 ·rw[qS];split
  ·rename_i hi;rcases h.pos with z | z;·rw[z]at hi;simp at hi
   ·exact _a8 _ (by lia)
  ·exact vS hv i
 ·rcases h.pos with z | z
  ·refine w! (λq hq=>?_);obtain⟨i,hi,rfl⟩:=gu! hq;simp[yO,z]
  ·exact R! z
noncomputable def bl(n:Nat):Nat:=af! n 0 0 (bl (n / 2)+1)
termination_by n
decreasing_by lia
theorem zcc:bl 0=0:=by rw[bl];rfl
theorem zdr(h:n≠0):bl n=bl (n / 2)+1:=by rw[bl,_q h]
theorem zgw:∀(b a:Nat),a<=b->bl a<=bl b:=by
 intro b;induction b using Nat.strongRecOn with | ind b ih=>
  intro a h;by_cases h0:a=0;·subst h0;rw[zcc];lia
  ·rw[zdr h0,zdr (show b≠0 by lia)];have:=ih (b / 2) (by lia) (a / 2) (by lia);lia
theorem zmV(h:2*a<b):bl a<bl b:=by
 rw[zdr (show b≠0 by lia)];have:=zgw (b / 2) a (by lia);lia
theorem zoe:∀(k n:Nat),n<2 ^ k->bl n<=k
 | 0,n,h=>by simp at h;subst h;rw[zcc];lia | k+1,n,h=>by
  by_cases h0:n=0;·subst h0;rw[zcc];lia
  ·rw[zdr h0];have:=zoe k (n / 2) (by lia);lia
noncomputable def wt(v:g!):Nat:=(v.map λx=>bl n4!).sum
theorem zop:∀{u v:List Int},pi!=J!->(∀i,bl (u.getD i 0).toNat<=bl (eQ! bT!))->wt u<=wt v/\((∃i,bl (u.getD i 0).toNat<bl (eQ! bT!))->wt u<wt v)
 | [],[],_,_=>⟨by decide,λ⟨i,h⟩=>by simp at h⟩ | a::u,b::v,hl,h=>by
  have ih:=zop (by simpa using hl) λi=>by exact h (i+1)
  have h0:bl a.toNat<=bl o5!:=by exact h 0
  simp only[wt,_p,_aA]at ih ⊢;refine⟨by lia,λ⟨i,hi⟩=>?_⟩;cases i with
  | zero=>
   have:bl a.toNat<bl o5!:=by exact hi
   lia | succ i=>
   have:=ih.2 ⟨i,by exact hi⟩;lia
 | [],_::_,h,_=>by cases h | _::_,[],h,_=>by cases h
theorem vx(h:jH!=J!)(i:Nat):bg! (fD! qs b) i=bT!-qs.getD i 0*fm!:=by
 unfold left;by_cases hi:eZ!;·simp[List.getElem?_zipWith,_b hi,_b (show i<jH! from by lia)]
 ·simp[List.getElem?_zipWith,_J (qI! hi),_J (qI! (show ¬ i<jH! from by lia))]
theorem z95{u v:g!}(hl:pi!=J!)(h:∀i,u.getD i 0=bT!):u=v:=by
 refine _aQ hl λi h1 h2=>?_;simpa[_b h1,_b h2] using (h i)
theorem zk2{a b:Int}(h0:0<b)(h:b<=a):2*(a % b)<a:=by
 have h1:=_a3 a b;have h2:=_bl a h0;have h5:b*1<=b*(a / b):=_cg (by
  have:=Int.ediv_le_ediv h0 h;rwa [Int.ediv_self (by lia)]at this) (by lia);lia
theorem zfQ{a b:Int}(ha:0<=a)(h0:0<b):a % b<=a:=by
 have h1:=_a3 a b;have h3:0<=b*(a / b):=_be (by lia) (Int.ediv_nonneg ha (by lia));lia
theorem znq(hv:∀x∈v,0<=x)(h:Dl v d.1 d.2):wt (fD! (yO v d) d.1)<=wt v/\((∃i,eZ!/\i∈d.2/\bp! d.1<=bT!)->wt (fD! (yO v d) d.1)<wt v):=by
 have hl:=yZ v d;have key:∀i,bg! (fD! (yO v d) d.1) i=ai! (eZ!/\i∈d.2) (bT! % bp! d.1) bT!:=λi=>by rw[vx hl,qS]
 have p:∀i,eZ!/\i∈d.2->0<bp! d.1:=e8! (by
  rcases h.pos with z | z;·rw[z]at hi;simp at hi
  ·exact z)
 have w:=zop (uk hl) λi=>by
  rw[key];split
  ·rename_i hi;have:=zfQ (vS hv i) (p i hi);exact zgw _ _ (by lia)
  ·exact ah!
 refine⟨w.1,λ⟨i,h1,h2,h3⟩=>w.2 ⟨i,?_⟩⟩;rw[key,b7! h1 h2];have h0:=p i ⟨h1,h2⟩;have:=zk2 h0 h3;exact zmV (by lia)
theorem zlj(v:g!):wt (rot v)=wt v:=by cases v with
 | nil=>rfl | cons a v=>simp[rot,wt];lia
theorem zeI(h:∀x,x∈a ↔ x∈b)(ha:a4! a):jF! a=jF! b:=by
 have h1:=minL_le _ ((h _).mp (rr! ha));have h2:=minL_le _ ((h _).mpr (rr! (λz=>by
  have:=(h _).mp (rr! ha);rw[z]at this;cases this)));lia
theorem zp5(h:nz v≠[])(h0:fp!≠iJ! v):lp (rot v)<db!:=by cases v with
 | nil=>exact cN! h (by decide) | cons a t=>
  have m:=(rO! h).1;have ha:a≠iJ! (a::t):=by exact h0
  unfold lp;rw[((zeI (λx=>by rw[uN,uN,zhb]) h).symm)];generalize iJ! (a::t)=m' at *;show List.idxOf m' (t++[a])<_;rw[List.idxOf_append,_h ((d2! m).resolve_left λz=>ha i4!),List.idxOf_cons,show (a==m')=t! from by simpa using ha];simp
noncomputable def mu(r:Rl)(v:g!):Nat:=5*wt v+(af! r .tu db! 0)
theorem Lot.step{n:Nat}{v:g!}(r:Rl)(h:a2!)(he:ed!):Lot n dl!:=by
 have dl:=uH r h he;have q:=zeY fw! dl;refine⟨jc!,by rw[stp,z9V,uk l4!,h.len],ap! (zgu q x (z36.mp hx)),?_⟩;have fin:∀x∈kY! aH!,0<x->∃x∈dl!,0<x:=λx hx h0=>⟨x,z36.mpr hx,h0⟩;rcases dl.pos with z | z
 ·obtain⟨x,hx,h0⟩:=h.pos;refine fin x ?_ h0;rw[(z95 (uk l4!) λi=>by rw[vx l4!,qS,z];simp)];exact hx
 ·refine fin (bp! aH!) ?_ z;rw[<- (show bg! (kY! aH!) aH!=bp! aH! from by rw[vx l4!,qS,_q (λw=>dl.nb w.2)])];exact gZ! (by rw[uk l4!];exact dl.lt)
theorem zoa(h:a2!):db!<4:=by
 have:=(zcx qK!).1;have:=h.len;have:=h.sz;lia
theorem zrd(r:Rl)(h:a2!)(he:ed!):mu r dl!<mu r v:=by
 have dl:=uH r h he;have w:=znq fw! dl;have mn:∀j,j<J!->bp! j≠0->iJ! v<=bp! j:=λj hj h0=>minL_le _ (qJ! ⟨gZ! hj,h0⟩);cases r with
 | nx=>
  have g:=zcy ew!;have:wt (pC! .nx)<wt v:=by
   refine w.2 ⟨a8!,g.1,by simp[deal],?_⟩;rw[g.2];exact n0! _ (gZ! qL!)
  simp only[mu];rw[_q (by decide)];lia | le=>
  have g:=zcy ew!;have:wt (pC! .le)<wt v:=by
   refine w.2 ⟨a8!,g.1,by simp[deal],?_⟩;rw[g.2];exact n0! _ (gZ! qL!)
  simp only[mu];rw[_q (by decide)];lia | al=>
  have l:=zcx qK!;obtain⟨j,h1,h2,h3⟩:=zhe (z8D he) (by rw[l.2.1];exact l.2.2);have:wt (pC! .al)<wt v:=by
   refine w.2 ⟨j,h2,by simp[deal,vX,h1,h2],?_⟩;show bp! db!<=_;rw[l.2.1];exact mn j h2 h3
  simp only[mu];rw[_q (by decide)];lia | tu=>
  simp only[mu];rw[_h trivial];have l4:=zoa (h.step .tu he);have same:fD! (yO v mI!) (mI!).1=v->fp!≠iJ! v->5*wt (pC! .tu)+lp (pC! .tu)<5*wt v+db!:=λe h0=>by
   have:=zp5 qK! h0;rw[(show pC! .tu=rot v from by rw[stp,za7,e]),zlj];lia
  by_cases z:fp!=0
  ·refine same (z95 (uk (yZ _ _)) λi=>?_) λq=>((zcx qK!).2.2 (by rw[<- q,z]))
   ·rw[vx (yZ _ _),qS];rw[show (mI!).2=[] from by show (af! fp! 0 [] (wG v 0))=[];rw[_h z]];simp
  ·by_cases ex:∃i,eZ!/\i≠0/\fp!<=bT!
   ·obtain⟨i,h1,h2,h3⟩:=ex;have:wt (pC! .tu)<wt v:=by
     rw[stp,za7,zlj];refine w.2 ⟨i,h1,?_,h3⟩;show i∈(af! fp! 0 [] (wG v 0));rw[_q z];exact vX.mpr ⟨h1,h2⟩
    lia
   ·refine same (z95 (uk (yZ _ _)) λi=>?_) λq=>?_
    ·rw[vx (yZ _ _),qS];split
     ·rename_i hi;have:¬ fp!<=bT!:=λw=>ex ⟨i,hi.1,(by
       have:=hi.2;simp only[deal,_q z,vX]at this;exact (i7!).2),w⟩;show bT! % fp!=_;exact Int.emod_eq_of_lt (vS fw! i) (by lia)
     ·rfl
    ·obtain⟨j,h1,h2,h3⟩:=zhe (z8D he) z;have:=mn j h2 h3;exact ex ⟨j,h2,h1,by lia⟩
inductive Run(r:Rl):g!->fC!->j! | done {v:g!}:nk!=c!->Run r v [v] | step {v:g!}{ls:fC!}:ed!->fP! dl!->Run r v (v::ls)
theorem zlp: ∀(k:Nat)(v:List Int),a2!->mu r v<=k->∃ls,fP! v/\pj!<=k+1
 | k,v,h,hk=>by cases he:nk! with
  | true=>exact⟨[v],.done he,by simp⟩ | false=>
   have lt:=zrd r h he;match k,hk with
   | 0,hk=>lia | k+1,hk=>
    obtain⟨ls,h1,h2⟩:=zlp (r:=r) k dl! (oQ! he) (by lia);exact⟨v::ls,.step he h1,by simp;lia⟩
theorem zpz: ∀{v:List Int},(∀x∈v,n4!<2 ^ m)->wt v<=J!*m
 | [],_=>by simp[wt] | a::v,h=>by
  have ih:=zpz (v:=v) (ap! (h x (by simp[hx])));have:=zoe m a.toNat (h a (by simp));simp only[wt,_p,_aA,_j,Nat.succ_mul]at ih ⊢;lia
theorem zqK(h:a2!)(hb:∀x∈v,n4!<2 ^ m):mu r v<=20*m+3:=by
 have w:=zpz hb;have l:=zoa h;have:J!*m<=4*m:=_ay m (by have:=h.len;have:=h.sz;lia);unfold mu;split<;>lia
noncomputable def cg(a b:Int):Int:=h! (Int.gcd a b)
noncomputable def z2M(v:g!):Int:=oF! 0
theorem z57:∀(v:List Int)(a:Int),0<=a->0<=oF! a/\(oF! a ∣ a/\∀x∈v,oF! a ∣ x)/\∀d,d ∣ a->(∀x∈v,d ∣ x)->d ∣ oF! a
 | [],a,h=>⟨h,⟨Int.dvd_refl _,by simp⟩,λd hd _=>hd⟩ | x::v,a,h=>by
  have ih:=z57 v (cg a x) (by simp[cg]);refine⟨ih.1,⟨_bL ih.2.1.1 (_do ..),cO! ?_⟩,λd hd hx=>(ih.2.2 d (Int.dvd_coe_gcd hd (hx x (by simp))) (cO! (hx y (by simp[hy]))))⟩
  ·rcases d2! hy with rfl | hy;·exact _bL ih.2.1.1 (_c0 ..)
   ·exact ih.2.1.2 y hy
theorem zcG(v:g!):0<=fM!:=(z57 v 0 (by lia)).1
theorem z9u: ∀x∈v,fM! ∣ x:=(z57 v 0 (by lia)).2.1.2
theorem z97(h:∀x∈v,d ∣ x):d ∣ fM!:=(z57 v 0 (by lia)).2.2 d (_dD d) h
theorem zlG(h:∀d,(∀x∈u,d ∣ x) ↔ (∀x∈v,d ∣ x)):z2M u=fM!:= _dp (zcG u) (zcG v) (z97 ((h _).mp z9u)) (z97 ((h _).mpr z9u))
theorem zee{v:g!}{P:Int->j!}(h0:P 0):(∀x∈v,P x) ↔ ∀i,P bT!:=by
 constructor
 ·intro h i;by_cases hi:eZ!;·exact h _ (gZ! hi)
  ·simp[_J (qI! hi),h0]
 ·intro h x hx;obtain⟨i,hi,rfl⟩:=oN!;simpa[_b hi] using (h i)
theorem zfH(r:Rl)(h:a2!)(he:ed!):z2M dl!=fM!:=by
 have dl:=uH r h he;have q:=zeY fw! dl;refine zlG λd=>?_;rw[(show (∀x∈dl!,d ∣ x) ↔ ∀x∈kY! aH!,d ∣ x from by
  constructor;·exact λh x hx=>h x (z36.mpr hx)
  ·exact λh x hx=>h x (z36.mp hx)),zee (_dD d),zee (_dD d)];constructor
 ·intro hd i;have h1:=hd i;have h2:=hd aH!;rw[(show bg! (kY! aH!) aH!=bp! aH! from by rw[vx l4!,qS,_q (λw=>dl.nb w.2)])]at h2;rw[vx l4!]at h1;have:=Int.dvd_add h1 (_bL h2 (Int.dvd_mul_left ..):d ∣ bg! hb! i*bp! aH!);rwa [Int.sub_add_cancel]at this
 ·intro hd i;rw[vx l4!];exact Int.dvd_sub (hd i) (_bL (hd aH!) (Int.dvd_mul_left ..))
theorem zlt:∀v:List Int,v.sum=(nz v).sum
 | []=>rfl | a::v=>by
  have:=zlt v;by_cases h:a=0;·subst h;simp[nz]at this ⊢;exact this
  ·simp[nz,h]at this ⊢;exact this
theorem zhS(h:a2!)(he:nk!=c!):v.sum=fM!:=by
 obtain⟨x,ex⟩:∃x,nz v=[x]:=by match hz:nz v,(show g9! v=1 from by simpa[ended] using he) with | [x],_=>exact ch! x
 have xm:=uN.mp (show x∈nz v by rw[ex];simp);rw[(show v.sum=x from by rw[zlt,ex];simp)];refine _dp (h.nn x xm.1) (zcG v) (z97 (cO! ?_)) (z9u x xm.1);by_cases y0:y=0;·subst y0;exact _dD _
 ·have := qJ! ⟨hy,y0⟩;rw[ex]at this;simp at this;subst this;exact Int.dvd_refl _
structure PI(n:Nat)(B:Int)(P:Tb)(c x:g!):j! where
 tab:eR! P
 nn:∀row∈P,∀y∈row,0<=y/\y<=B
 eq:mv P c=x
theorem z0R(r:Rl)(h:a2!)(he:ed!):eR! fq!:=zke r jc! (by rw[yZ,h.len]) (by rw[<- h.len];exact (uH r h he).lt)
theorem zfL(r:Rl)(h:a2!)(he:ed!):z08 fq!:=by
 have dl:=uH r h he;exact zh3 r jc! (by rw[yZ,h.len]) (by rw[<- h.len];exact dl.lt) (zeY fw! dl).zero
theorem PI.step{n:Nat}{B:Int}{P:Tb}{c x:g!}(r:Rl)(I:PI n B P c x)(hx:∀y∈x,y<=B)(h:Lot n c)(he:nb! c=t!):PI n B (jw P (jC r c)) (stp r c) x:=by
 have dl:=uH r h he;have q:=zeY fw! dl;have tt:=z0R r h he;have bI:∀row∈P,z5l (jC r c) row=gO! (z9Y (deal r c).1 (yO c (deal r c)) row):=λrow hr=>zi2 r jc! (by rw[yZ,h.len]) (by rw[<- h.len];exact dl.lt) q.zero (I.tab.row row hr);have ri := λrow hr=>zjN r q (hx _ (by rw[<- I.eq];exact _t.mpr ⟨row,hr,rfl⟩)) ⟨by rw[I.tab.row row hr,h.len],I.nn row hr,rfl⟩;refine⟨zdo I.tab tt,λrow hr y hy=>?_,?_⟩
 ·rw[z1P jc! I.tab tt]at hr;obtain⟨w,hw,rfl⟩:=jX!;rw[bI w hw]at hy;exact (ri w hw).nn y hy
 ·rw[z1P jc! I.tab tt,<- I.eq];unfold mv;rw[_aj];refine _aX λw hw=>?_;show dot (z5l (jC r c) w) (stp r c)=dot w c;rw[bI w hw];exact (ri w hw).dot
theorem zpu(n:Nat):∀row∈bS!,∀y∈row,0<=y/\y<=1:=λrow hr y hy=>by
 obtain⟨i,_,rfl⟩:=jX!;obtain⟨j,_,rfl⟩:=_t.mp hy;split<;>lia
theorem PI.start(h:a2!)(hx:∀y∈v,y<=B):PI n B bS! v v:=by
 have b1:1<=B:=by
  obtain⟨y,hy,h0⟩:=h.pos;have:=hx y hy;lia
 refine⟨z9R n,λrow hr y hy=>?_,zkC jc! h.len⟩;have:=zpu n row hr y hy;lia
theorem zn3(r:Rl)(h:a2!)(he:ed!)(hb:∀y∈v,y<=B):∀row∈fq!,∀y∈row,0<=y/\y<=B:=by
 have e:=((PI.start h hb).step r hb h he).nn;rw[(z9a jc! (z0R r h he)).1]at e;exact e
theorem zqu(r:Rl)(h:a2!)(he:ed!)(hb:∀y∈v,y<=B):∀y∈dl!,y<=B:=cO! (by
 have dl:=uH r h he;have q:=zeY fw! dl;obtain⟨i,hi,rfl⟩:=gu! (z36.mp hy);have b:=hb _ (gZ! (by rw[<- uk l4!];exact hi));rw[(show (kY! aH!)[i]=bg! (kY! aH!) i from by simp[_b hi]),vx l4!,qS];split
 ·rename_i w;rcases dl.pos with z | z;·rw[z]at w;simp at w
  ·have:=zfQ (vS fw! i) z;lia
 ·exact b)
noncomputable def scl(k:Int)(v:g!):g!:=v.map λx=>x*k
section
variable {k:Int}(hk:0<k)
include hk
theorem zmr: x*k=y*k ↔ x=y:=⟨λh=>Int.eq_of_mul_eq_mul_right (by lia) h,λh=>by rw[h]⟩
theorem znG: x*k∈scl k v ↔ x∈v:=by
 unfold scl;rw[_t];exact⟨λ⟨y,hy,e⟩=>by rw[<- (zmr hk).mp e];exact hy,λh=>aQ! x h rfl⟩
theorem znB(v:g!):r! (scl k v)=J!:=by simp[scl]
end
noncomputable def zK(r:Rl)(ls:fC!):dZ! Tb:=ls.dropLast.map (jC r)
theorem Run.ne(R:fP! v):a4! ls:=by cases R<;>simp
theorem Run.tabs_cons(h:fP! dl!):zK r (v::ls)=fq!::jg!:=by
 obtain⟨a,t,rfl⟩:=List.exists_cons_of_ne_nil ew!;rfl
noncomputable def ki(n:Nat)(ts:dZ! Tb):Tb:=ts.foldl jw bS!
theorem Run.fairP(h:a2!)(R:fP! v):∀P,eR! P->z08 P->z08 ((jg!).foldl jw P):=by induction R with
 | done e=>simpa[zK] using f | step e R ih=>
  intro P hP f;rw[R.tabs_cons];exact ih (oQ! e) _ (zdo hP (z0R r h e)) (zhg jc! hP (z0R r h e) f (zfL r h e))
theorem Run.fair(h:a2!)(R:fP! v):z08 hn!:=R.fairP h _ (z9R n) (w! (zni jc!))
theorem Run.prod(h:a2!)(R:fP! v)(I:PI n B P v x)(hx:∀y∈x,y<=B):∃z,ls.getLast? = b! z/\nb! z=c!/\Lot n z/\z2M z=fM!/\PI n B ((jg!).foldl jw P) z x:=by induction R generalizing P with
 | done e=>exact⟨_,by rfl,e,h,rfl,by exact I⟩ | step e R ih=>
  obtain⟨z,h1,h2,h3,h4,h5⟩:=ih (oQ! e) (I.step r hx h e);refine⟨z,?_,h2,h3,by rw[h4,zfH r h e],?_⟩;·rw[List.getLast?_cons,h1];rfl
  ·rw[R.tabs_cons];exact h5
theorem Run.whole(h:a2!)(R:fP! v)(hx:∀y∈v,y<=B):∃z,ls.getLast? = b! z/\nb! z=c!/\Lot n z/\z2M z=fM!/\PI n B hn! z v:=R.prod h (PI.start h hx) hx
open Dd (lexN)
theorem zep:∀{a b:List Int},a≠b->gw! b a=! gw! a b
 | [],[],h=>f6! h | [],_::_,_=>rfl | _::_,[],_=>rfl | x::a,y::b,h=>by
  by_cases e:x=y
  ·subst e;simp only[lexN,_x];exact zep (λz=>h (by rw[z]))
  ·have e':¬ y=x:=λz=>e i4!;simp only[lexN,e,e',_a0];by_cases l:x<y;·simp[l];lia
   ·simp[l];lia
theorem zgr:∀{a b c:List Int},gw! a b=c!->gw! b c=c!->gw! a c=c!
 | [],[],_,h,_=>by simp[lexN]at h | [],_::_,[],_,h=>by simp[lexN]at h | [],_::_,_::_,_,_=>rfl | _::_,[],_,h,_=>by simp[lexN]at h | _::_,_::_,[],_,h=>by simp[lexN]at h | x::a,y::b,z::c,h1,h2=>by
  simp only[lexN]at h1 h2 ⊢;by_cases e1:x=y
  ·subst e1;by_cases e2:x=z
   ·subst e2;simp only[_x]at h1 h2 ⊢;exact zgr h1 h2
   ·simp only[e2,_a0]at h2 ⊢;exact h2
  ·simp only[e1,_a0,_au]at h1;by_cases e2:y=z
   ·subst e2;simp only[e1,_a0,_au];exact h1
   ·simp only[e2,_a0,_au]at h2;simp only[(show ¬ x=z from by lia),_a0,_au];lia
abbrev Up(L:fC!):j!:=L.Pairwise λa b=>gw! a b=c!
end Pm
namespace Pg
open L2 Dd Pm
noncomputable abbrev iL(ns:g!):C!:=h3!
theorem ztL{i:Int} (h:gV!<2 ^ m)(hm:m<=bB!):gV!<BIG:=_i h (_B (by decide) (by lia))
theorem z3A(s:Sto)(ha:a.natAbs<2 ^ m)(hm:m<=bB!)(hb:b.natAbs<2 ^ k)(hk:k<=bB!):yT fI! eE! s=u! (a*b):=by rw[zfO,b7! (ztL ha hm) (ztL hb hk)]
theorem z5X(s:Sto)(hb:0<b):zdO fI! eE! s=u! (a % b):=by rw[zon,_h hb]
theorem zdw(s:Sto)(h:∀x∈xs,x=eA!):zft [cD!] s=bN!:=by simp[zft,zV,(show n1! xs=b! (nG! (λ_=>c!)) from by
  conv=>lhs;rw[(show xs=(nG! (λ_=>c!)).map D.bl from by
  rw[_aj];conv=>lhs;rw[<- List.map_id xs]
  exact _aX (ap! (h x hx)))]
  exact zar _)]
theorem z8a(s:Sto)(h:a4! ns):vH [p! (iL ns)] s=u! nl!:=by cases ns with
 | nil=>exact f6! h | cons n ns=>simp only[vH,zV,_L,vZ]
theorem zkU(s:Sto)(h:a4! ns):z7g [p! (iL ns)] s=u! (jF! ns):=by cases ns with
 | nil=>exact f6! h | cons n ns=>simp only[z7g,zV,_L,vZ]
theorem zor(s:Sto)(h:a4! ns):vH [eF! ns] s=u! nl!:=by cases ns with
 | nil=>exact f6! h | cons n ns=>simp only[vH,zV,_L,vZ]
theorem zjt(h:a4! ns)(e:E! s l (iL ns)):vH [ea!] s=u! nl!:=by cases ns with
 | nil=>exact f6! h | cons n ns=>simp only[vH,zV,e,_L,vZ]
theorem zi4(xs:C!)(s:Sto):gIs dd! aD! s=bN!:=V!
theorem zsr(x:Str)(s:Sto):gIs fU! bQ! s=bN!:=V!
theorem z3k(xs:C!)(s:Sto)(h:2<=v!/\v!<=4):yS [aD!] s=bN!:=by simp[yS,Mof,qB,zx,zi4,yM,zV,(show h! 2<=v! from by lia),(show h! v!<=4 from by lia)]
theorem z0b(ns:g!) (s:Sto) (h:dm! e7!):yd [p! (iL ns),d! e7!] s=bN!:=by
 simp[yd,Mof,uT,zx,zi4,yM,zV];rw[zaC (λ_=>D.bl c!) (iL ns) [] (by intro x hx;obtain⟨n,_,rfl⟩:=jY!;rfl) (by simp[cap];lia)];simp only[Rb,_as];rw[zdw s (by intro x hx;obtain⟨_,_,rfl⟩:=jY!;rfl)];rfl
theorem vF{α:cd!} (g f:α->D):∀(l:List α)(acc:List D),(∀a∈l,body (g a) s=k! (b! (f a)))->jG!+lm!<=cap->qK [] all dI! mB! acc s=k! (acc++mA!)
 | [],acc,_,_=>by simp[qK,okG] | x::xs,acc,hb,hl=>by
  rw[_p,qK];simp[okG,hb x (by simp),(show jG!<cap from by simp at hl;lia),(vF (all:=all) g f xs (acc++[f x]) (cO! (hb y (by simp[hy]))) (by simp at hl ⊢;lia))]
theorem zl3(ns:g!)(s:Sto):zm1 [eF! ns] s=u! ns.sum:=by simp only[zm1,zV,_L,vZ]
theorem zw:∀(r v:List Int),ks! (λa b=>a*b) r v=ji! r v (λp=>p.1*p.2)
 | [],_=>by rfl | _::_,[]=>by rfl | a::r,b::v=>by simp[zw r v]
theorem z94:∀(r v:List Int),z3S (iL r) br!=ji! r v (iF! (bO! p.1 p.2))
 | [],_=>by rfl | _::_,[]=>by rfl | a::r,b::v=>by simp[z3S,(z94 r v)]
theorem zbI(i j:Nat)(s:Sto):wj [ac!,d! j] s=u! (sg i j):=by
 simp[wj,Mof,z89,zx,z5X s (show 0<2 by decide)];unfold sg;by_cases h:(i+j) % 2=0;·simp[h,(show (h! i+j) % 2=0 from by lia)]
 ·simp[h,(show ¬ (h! i+j) % 2=0 from by lia)]
theorem z3s(s:Sto)(hr:∀x∈r,dc! m)(hv:∀x∈v,dc! k)(hm:m<=bB!)(hk:k<=bB!)(hl:aE!<=4):xT [p! (iL r),p! br!] s=u! (eM! v):=by
 simp[xT,Mof,z5A,zx,z8c,(z94 r v),-List.map_map];rw[vF _ (pk! (aJ! (p.1*p.2))) _ [] (by
  intro p hp;simp[z3A s (hr p.1 (lO!).1) hm (hv p.2 (lO!).2) hk]) (by simp[cap];lia)];simp only[Rb,_as];rw[(show ji! r v (pk! (aJ! (p.1*p.2)))=iL (ji! r v (λp=>p.1*p.2)) from by simp[_P]),zl3];simp[dot,zw]
noncomputable abbrev rD(r:g!):D:=p! (iL r)
noncomputable abbrev tD(T:Tb):D:=p! nh!
theorem z9U(s:Sto)(h:Bd m T)(hv:∀x∈v,dc! k)(hm:m<=bB!)(hk:k<=bB!)(hl:∀r∈T,aE!<=4)(hT:aY!<=4):xE [tD T,p! br!] s=bf! (iL (mv T v)):=by
 simp only[xE,Mof,z1y,zx,tD];simp[-List.map_map];rw[vF rD (λr=>aJ! (eM! v)) T [] (by
  intro r hr;simp[(z3s s (h r hr) hv hm hk (hl r hr))]) (by simp[cap];lia)];simp[zW,zV,mv,_P]
theorem z87{j:Nat} (s:Sto)(h:E! xs j d):cU! aD! j s=k! d:=by
 have hj := cE! h;simp only[dIx,zV,atI,(show kA! j=b! j from by
  unfold ixN;rw[_h (by lia),_h (by lia)];rfl),_L,h]
theorem zds(hn:dm! n)(h:ar ρ s=T! [d! n]):jB ar ρ s=T! (ym n,[]):=by
 rw[zdX,h,Rb];simp only;rw[_h (by lia),_T]
theorem zuD{k:Nat} (s:Sto) (hk:∀r∈T,k<aE!) (hT:aY!<=4):zv cF! b4! cc! zZ (gb! 1) [b6! T,bU!] s=k! (eF! (od! (λr=>cC! k))):=by
 simp[-List.map_map];rw[vF rD (λr=>aJ! (cC! k)) T [] (by
  intro r cQ;simp[(z87 (xs:=iL r) (j:=k) (d:=d! (cC! k)) s (by simp[_b (hk r cQ),List.getD]))]) (by simp[cap];lia)];simp[_P]
theorem zu6(s:Sto) (hr:∀r∈T,aY!<=aE!) (hT:aY!<=4): zv (jB (bC! fj!)) (au! 0) cc! zZ (el! cF! b4! 1 (gb! 1)) [b6! T] s=bw! (fc! (yi T)):=by
 rw[uw,uK,zds (n:=T.length) (s1:=s) (by lia) (by simp[yM,zV]),Rb];simp only[ym];rw[vF (fz! k) (λk:Nat=>rD (od! (λr=>cC! k))) (iX! aY!) [] (by
  intro k hk;rw[ve,Rb,z3l,Rb,yg,zy,show (vd (au! 0) [b6! T]).set 1 bU!=[b6! T,bU!] from rfl,zuD s (λr cQ=>_i (by simpa using hk) (hr r cQ)) hT];rfl) (by simp[cap];lia)];simp[yi,_P]
theorem zrV(s:Sto)(x:C!)(h:zv (jB (bC! fj!)) (au! 0) cc! zZ (el! cF! b4! 1 (gb! 1)) [i!] s=bw! x):yR [d] s=bf! x:=by
 have st:zx [ef!] [d]=[i!]:=rfl;simp only[yR,Mof,z23,st,_j,_l,_x,z16,yo,yg,zy,h,Rb,zM,zW,zV]
theorem z3x(s:Sto)(hr:∀r∈T,aY!<=aE!)(hT:aY!<=4):yR [tD T] s=gJ! (yi T):=zrV s _ (zu6 s hr hT)
theorem zfl(s:Sto) (hn:a9!) (h:gK!):vP [tD T] s=bN!:=by
 have hl:=h.len;refine (λd h1 h2=>by
  have st:zx c3! [d]=[i!]:=rfl;simp only[vP,Mof,z6m,st,_x];rw[zn (ρ':=[i!]) (s':=s) (by simp[h1])];simp only[z4h,yo,yg,zy,h2,Rb,zM];rw[zdw s (by intro x hx;obtain⟨_,_,rfl⟩:=jY!;rfl)];rfl:∀d:D,yS [d] s=bN!->zv cF! (au! 0) cc! zZ (zg yd (aO! o! fj!)) [i!] s=bw! (od! (λ_=>D.bl c!))->vP [d] s=bN!) _ (z3k nh! s (by simp[hl];lia)) ?_;rw[uw,uK];simp only[jq,yf,_c,Rb];rw[vF rD (λ_=>D.bl c!) T [] (by
  intro r hr;have hw:=z0b r s (by have:=jb! r hr;lia);rw[jb! r hr,<- hl]at hw;simp[yM,zV,hw]) (by simp[cap];lia)];rfl
theorem z0o(s:Sto)(hn:a9!)(h:gK!):yF [tD T] s=eT!:=(λd h1=>by simp[yF,Mof,z28,zx,h1]:∀d:D,vP [d] s=bN!->yF [d] s=eT!) _ (zfl s hn h)
theorem zt3{d e c:D}{cs:fC!}(s:Sto)(f:g!->D)(hc:yR [e] s=bf! (cs.map rD))(h:∀r∈cs,xE [d,rD r] s=k! (f r))(hl:cs.length<=4): zv (zT (cA! yR 1)) (au! 0) cc! zZ (cM! xE) hf! s=bw! (cs.map f):=by
 rw[uw,uK];simp only[jq,yg,zy,zM,yf,_c,_d,Rb,hc];rw[vF rD f cs [] (by
  intro c hc;simp only[ve,Rb,z3l,_x,jD,jJ,_c,_aB,_F,_C,_d,h c hc]) (by simp[cap];lia),Rb,_as]
theorem zsi(s:Sto) (h1:yF [d] s=eT!) (h2:yF [e] s=eT!) (h3:yM [d] s=u! n) (h4:yM [e] s=u! n) (h5:zv (zT (cA! yR 1)) (au! 0) cc! zZ (cM! xE) hf! s=bw! x) (h6:yR [p! x] s=k! f):va [d,e] s=k! f:=by
 have st:zx mC! [d,e]=hf!:=rfl;simp only[va,Mof,z2u,st,_j,_l,_x];rw[zn (ρ':=hf!) (s':=s) (by simp[h1]),zn (ρ':=hf!) (s':=s) (by simp[h2]),zn (ρ':=hf!) (s':=s) (by simp[h3,h4])];simp only[z1z,yo,yg,zy,h5,Rb,zM];rw[(show zW [ab! x] s=bf! x from by rfl),Rb,Rb,h6,Rb]
theorem zao(s:Sto)(hn:a9!)(ha:ij!)(hb:eR! B)(hA:Bd m A)(hB:Bd k B)(hm:m<=bB!)(hk:k<=bB!):va [tD A,tD B] s=gJ! (jw A B):=by
 have w2:=z0o s hn hb;have c1:=z3x s (cy! (by rw[hb.row r hr,hb.len];lia)) (by rw[hb.len];lia);have lc:r! (yi B)=n:=by simp[yi,hb.len]
 have g2:yM [tD B] s=u! n:=by simp[yM,zV,hb.len]
 refine zsi s (z0o s hn ha) w2 (by simp[yM,zV,ha.len]) g2 (zt3 (c:=at!) s (λr=>rD (mv A r)) c1 (cy! (z9U s hA (zlN hB r hr) hm hk (ha.le hn) (by rw[ha.len];lia))) (by lia)) ?_;rw[(show (yi B).map (λr=>rD (mv A r))=fc! ((yi B).map (mv A)) from by rw[_aj];rfl)];exact (z3x (T:=(yi B).map (mv A)) s (cy! (by
  obtain⟨c,_,rfl⟩:=jX!;simp[mv,ha.len,lc])) (by simp[lc];lia))
theorem z2T(xs:C!)(i:Nat)(s:Sto):dSl aD! a! (b! (h! i)) s=bf! (mV! i):=by simp only[dSl,(show Dd.cutD xs a! ig!=mV! i from by
  unfold Dd.cutD;rw[HT.zdu,HT.zgF];simp[List.take_eq_take_min])]
theorem z1H(xs:C!)(i:Nat)(s:Sto):dSl aD! (b! (h! i)) a! s=bf! (k3! i):=by simp only[dSl,(show Dd.cutD xs ig! a!=k3! i from by
  unfold Dd.cutD;rw[HT.zdu,HT.zgF];by_cases h:i<=v!
  ·rw[Nat.min_eq_left h];exact List.take_of_length_le (by simp)
  ·rw[Nat.min_eq_right (by lia)];simp[List.drop_of_length_le (show v!<=i by lia)])]
theorem zkD{f g h:FE} {j:Nat}(hf:aK!=k! aD!)(hg:g ρ s=u! j)(hl:dm! v!): eOp xj (ge! f g) (eG! f (bc! g ak!)) ρ s=bf! (mV! j++k3! (j+1)):=by
 have e2:=z1H xs (j+1) s;rw[show ((j+1:Nat))=h! j+1 from rfl]at e2;simp only[yx,zbH,qE,z1D,z00,hf,hg,Rb,z81,(z2T xs j s),e2,z3N,_h (show r! (mV! j)+r! (k3! (j+1))<=cap from by simp[cap];lia)]
theorem zb0(i j:Nat) (s:Sto) (hT:aY!<=4) (hr:∀r∈T,aE!<=4):xN [tD T,ac!,d! j] s=gJ! (ht! i):=by
 have h0:=zkD (f:=n!) (g:=o!) (h:=n!) (ρ:=fh! (tD T) ac! aV!) (s:=s) (xs:=nh!) (j:=i) (by rfl) (by rfl) (by simp;lia);have:=(λd K h hK oG=>by
  have st:zx [i8!,"at_line",qv!,"kept"] [d,ac!,d! j]=fh! d ac! aV!:=rfl;simp only[xN,Mof,z8w,st,_j,_l,_x];rw[zn (ρ':=[i!,e! i,aV!,b! (p! (pl! rD))]) (s':=s) (by rw[z63,zO,h];rfl)];have c:zv (zT ba!) (au! 2) cc! zZ (bc! (ge! o! n!) (eG! o! (gH! 0))) [i!,e! i,aV!,b! (p! (pl! rD))] s=bw! (pl! (λr=>rD (rn!++nS! (j+1)))):=by
   rw[uw,uK];simp only[jq,yf,_c,_d,Rb];rw[vF rD (λr=>rD (rn!++nS! (j+1))) K [] (by
    intro r cQ;simp only[ve,Rb,z3l,jD,jJ,qO,_c,_d,_aB,_F,_C];rw[(zkD (f:=o!) (g:=n!) (h:=n!) (ρ:=[aV!,bX! r]) (s:=s) (xs:=iL r) (j:=j) (by rfl) (by rfl) (by have:=oG r cQ;simp;lia)),Rb];simp[_aS]) (by simp[cap];lia),Rb,_as]
  rw[z6h,yo,yg,zy,c,Rb,zM,Rb,Rb,(show zW [ab! (pl! (λr=>rD (rn!++nS! (j+1))))] s=bf! (pl! (λr=>rD (rn!++nS! (j+1)))) from by rfl),Rb]:∀(d:D) (K:Tb),(bc! (ge! n! o!) (eG! n! (gH! 1))) (fh! d ac! aV!) s=bf! (pl! rD)->K.length<=4->(∀r∈K,aE!<=4)-> xN [d,ac!,d! j] s=bf! (pl! (λr=>rD (rn!++nS! (j+1))))) (tD T) (T.take i++T.drop (i+1)) (by rw[h0];simp[_ce,_aS]) (by simp;lia) (λr cQ=>hr r ((cy! (mx! hr _R _az)) r cQ));rw[this];simp[z17,_P]
theorem zcK(r:g!):z1Q 0 (iL r)=aS! aE! (λ(j:Nat)=>gv! (bO! (h! j) (cC! j))):=by
 apply _c1;intro k;by_cases h:k<aE!
 ·have h1:k<r! (z1Q 0 (iL r)):=by rw[qY];simpa using h
  obtain⟨x,e1,e2⟩:=z9z (_b h1);rw[_b h1,e2];simp only[_z,_b h,_af,_y]at e1;rw[<- e1];simp[h,List.getD]
 ·rw[_J (by rw[qY];simp;lia),_J (by simp;lia)]
theorem qT{j:Nat}(s:Sto)(h:j<aE!):cU! (rD r) (h! j) s=u! (cC! j):=z87 s (by simp[_b h,List.getD])
theorem zjX(i j:Nat):bA! (sg i j)<2 ^ 1:=by rw[zgi];decide
theorem z5Q(hm:m<=400):∀(k:Nat) (T:Tb) (s:Sto),aY!<=k->1<=aY!->aY!<=4->(∀r∈T,aE!=aY!)->Bd m T->yD k [tD T] s=u! (det k T)
 | 0,T,s,h0,h1,_,_,_=>by lia | k+1,T,s,h0,h1,h4,hr,hb=>by
  have ih:=λU oH oI oJ oK oM=>z5Q hm k U s oH oI oJ oK oM;have lV:jo! 0∈T:=by rw[List.getD,_b (by lia)];exact _K _
  have l0:=hr _ lV;have b0:=hb _ lV;have gl:yM [tD T] s=u! aY!:=by simp[yM,zV]
  have i0:cU! (tD T) 0 s=k! (rD (jo! 0)):=by exact (z87 (xs:=nh!) (j:=0) (d:=rD (jo! 0)) s (by simp[_b (show 0<aY! by lia),List.getD]))
  have st:∀d:D,zx [i8!] [d]=[i!]:=λ_=>rfl;by_cases he:aY!=1
  ·have key:∀(d e:D) (x:Int),yM [d] s=u! 1->cU! d 0 s=k! e->cU! e 0 s=u! x->yD (k+1) [d] s=u! x:=λd e x a1 a2 a3=>by
    rw[yD];simp only[Mof,z0w,st,_j,_l,_x];rw[ze9 (d:=d! x) (s':=s) (by simp[a1,a2,a3])]
   rw[key (tD T) _ _ (by rw[gl,he];rfl) i0 (qT (j:=0) s (by lia)),det,_h he]
  ·have en:=zcK (jo! 0);rw[l0]at en;have wl:∀j,r! (ht! 0)=aY!-1:=λj=>z5h (by lia);have wr:∀j,j<aY!->∀r∈ht! 0,aE!=r! (ht! 0):=λj hj r cQ=>by
    rw[wl];obtain⟨q,hq,rfl⟩:=_t.mp cQ;have:=hr q (mx! hq _R _az);simp;lia
   have fQ:∀j∈iX! aY!,wj (bO! 0 j) s=u! (sg 0 j)/\xN [tD T,dp!,d! j] s=gJ! (ht! 0)/\yD k [tD (ht! 0)] s=u! (det k (ht! 0))/\ yT (d! (sg 0 j)) (d! (bg! (jo! 0) j)) s=u! (sg 0 j*bg! (jo! 0) j)/\yT (d! (sg 0 j*bg! (jo! 0) j)) (d! (det k (ht! 0))) s=u! (sg 0 j*bg! (jo! 0) j*det k (ht! 0)):=λj hj=>by
    have s1 := zbI 0 j s;have s3:=ih (ht! 0) (by rw[wl];lia) (by rw[wl];lia) (by rw[wl];lia) (wr j (by simpa using hj)) (z3m hb 0 j);have b1:=z5K b0 j;have b2:=zdF k (ht! 0) (z3m hb 0 j) (by rw[wl];lia) (by rw[wl];lia);have m1:=z3A s (zjX 0 j) (by decide) b1 (by lia);have m2:=z3A s (zcm (zjX 0 j) b1) (by lia) (_i b2 (_B (by decide) (by
     rw[wl];have:(aY!-1)*m<=3*m:=_ay _ (by lia);lia))) ah!;exact⟨s1,(zb0 0 j s h4 (λr cQ=>by rw[hr r cQ];exact h4)),s3,m1,m2⟩
   rw[det,_q he];refine (λd e n a1 a2 a3 x a4=>by
    rw[yD];simp only[Mof,z0w,st,_j,_l,_x];rw[zn (ρ':=[i!]) (s':=s) (by simp[a1,a2])];rw[z2f,yo,yg,zy,a3,Rb,zM,Rb,Rb,a4,Rb]:∀(d e:D) (n:Int),yM [d] s=u! n->n≠1->(lE! (z1S (bC! (gI! 0))) (dz! 0) (yN 1 2) (iR! (iR! (ez! wj D! 1) I!) (a0! (yD k) (zg xN (zb n! (cg! D! 1)))))) [i!] s=k! e-> ∀x,zm1 [e] s=u! x->yD (k+1) [d] s=u! x) (tD T) (eF! (aS! aY! (λj=>sg 0 j*bg! (jo! 0) j*det k (ht! 0)))) aY! gl (by lia) ?_ _ (zl3 _ s);rw[uw,uK];simp only[znd,zy,zM,yx,yf,z00,_c,Rb,i0,z8c];rw[en];rw[vF (λj:Nat=>gv! (bO! j (bg! (jo! 0) j))) (λj:Nat=>aJ! (sg 0 j*bg! (jo! 0) j*det k (ht! 0))) (iX! aY!) [] (by
    intro j hj;obtain⟨s1,s2,s3,m1,m2⟩:=fQ j hj;simp only[z8I,Rb,z3l,_x,jD,jJ,qO,_c,_d,_aB,_F,_C,yx,yg,zy,zM,z00,yf,s1,s2,s3,m1,m2]) (by simp[cap];lia)];simp[_P]
theorem ze4(s:Sto)(hn:n=1\/a9!)(h:gK!)(hb:Bd m T)(hm:m<=400):xA [tD T] s=u! (em! T):=by
 have hl:=h.len;exact z5Q hm 4 T s (by lia) (by lia) (by lia) (cy! (by rw[jb! r hr,hl])) hb
theorem zby(s:Sto) (hn:a9!) (h:gK!) (hb:Bd m T) (hm:m<=400):vc [tD T] s=u! (em! T):=by
 have w1:=z0o s hn h;exact (λd x a1 a2=>by
  have st:zx [ef!] [d]=[i!]:=rfl;simp only[vc,Mof,z26,st,_j,_l,_x];rw[zn (ρ':=[i!]) (s':=s) (by simp[a1])];simp only[jA,yo,yg,zy,zM,yf,_c,Rb,a2]:∀(d:D) (x:Int),yF [d] s=eT!->xA [d] s=u! x->vc [d] s=u! x) _ _ w1 (ze4 s (R! hn) h hb hm)
theorem z56(h:gK!)(hi:i<n)(hj:j<n):Tab (n-1) (ht! i):=by
 refine⟨by rw[z5h (by rw[h.len];exact hi),h.len],cy! ?_⟩;obtain⟨q,hq,rfl⟩:=jX!;have:=jb! q (mx! hq _R _az);simp;lia
theorem tbE(s:Sto)(hn:a9!)(h:gK!)(hb:Bd m T)(hm:m<=400)(ht:t.natAbs<2 ^ 1)(hi:i<n)(hj:j<n): (iR! (hk! 0 (ez! wj o! 3)) (a0! xA (zg xN (zb I! (cg! ba! 1))))) [e! t,e! (h! i),b6! T,e! (h! j)] s=u! (t*sg i j*em! (z17 T j i)):=by
 have s1:=zbI i j s;have s2:=zb0 j i s (by rw[h.len];lia) (h.le hn);have s3:=ze4 s (by lia) (z56 h hj hi) (z3m hb j i) hm;have b2:=zdF 4 (z17 T j i) (z3m hb j i) (by rw[(z56 h hj hi).len];lia) (by rw[(z56 h hj hi).len];lia);simp only[yx,yg,zy,zM,yf,_c,_d,Rb,s1,s2,s3,(z3A s ht (by decide) (zjX i j) (by decide)),(z3A s (zcm ht (zjX i j)) (by decide) (_i b2 (_B (by decide) (by
  rw[(z56 h hj hi).len];have:(n-1)*m<=3*m:=_ay _ (by lia);lia))) ah!)]
theorem tbI(s:Sto) (hn:a9!) (h:gK!) (hb:Bd m T) (hm:m<=400) (ht:t.natAbs<2 ^ 1) (hi:i<n): zv cF! (hj! 1 3 2) (yh 3) zZ (iR! (hk! 0 (ez! wj o! 3)) (a0! xA (zg xN (zb I! (cg! ba! 1))))) [L! (ym n),e! t,b6! T,e! (h! i)] s= k! (eF! (aS! n (λj=>t*sg i j*em! (z17 T j i)))):=by
 rw[uw,uK];simp only[jq,yf,_c,Rb,ym];rw[vF (fz! k) (λj:Nat=>aJ! (t*sg i j*em! (z17 T j i))) iD! [] (by
  intro j hj;simp only[ve,Rb,z3l,_x,jD,jJ,qO,_c,_d,_aB,_F,_C];rw[(tbE s hn h hb hm ht hi (by simpa using hj)),Rb]) (by simp[cap];lia)];simp[_P]
theorem tbO(s:Sto) (hn:a9!) (h:gK!) (hb:Bd m T) (hm:m<=400) (ht:mr! T<2 ^ 1): zv (zT I!) (hj! 2 1 0) (yh 3) zZ (el! cF! (hj! 1 3 2) 3 (iR! (hk! 0 (ez! wj o! 3)) (a0! xA (zg xN (zb I! (cg! ba! 1)))))) [b6! T,e! (em! T),L! (ym n)] s=bw! (fc! (gx! T)):=by
 rw[uw,uK];simp only[jq,yf,_c,_d,Rb];rw[show ym n=aS! n (fz! k) from rfl,vF (fz! k) (λi:Nat=>rD (aS! n (λj=>em! T*sg i j*em! (z17 T j i)))) iD! [] (by
  intro i hi;have q:=tbI s hn h hb hm ht (by simpa using hi);rw[show ym n=aS! n (fz! k) from rfl]at q;simp only[ve,Rb,z3l,_x,jD,jJ,qO,_c,_d,_aB,_F,_C];rw[yg,zy,q,Rb,zM,Rb,Rb,(λx=>by rfl:∀x:List D,zW [ab! x] s=bf! x),Rb]) (by simp[cap];lia),Rb,_as];simp only[back,h.len,_aj,_P]
theorem z8K(s:Sto) (hn:a9!) (h:gK!) (hb:Bd m T) (hm:m<=400) (hf:z08 T):uY [tD T] s=gJ! (gx! T):=by
 have w1:=zby s hn h hb hm;have c:=tbO s hn h hb hm (by rcases hf with e | e<;>rw[e]<;>decide);exact (λd t x a1 a2 a3 a4=>by
  have st:zx [ef!,n8!,lk!] [d]=dz! d:=rfl;simp only[uY,Mof,z1k,st,_j,_l,_x];rw[zn (ρ':=[i!,e! t,a!]) (s':=s) (by simp[a1]),zn (ρ':=[i!,e! t,a!]) (s':=s) (by rcases a2 with rfl | rfl<;>rfl),zn (ρ':=[i!,e! t,L! (ym n)]) (by
   simp only[qF,zO,zou,zy,zM,yg,yf,_c,Rb,a3,_h (show h! 0<=n/\h! n<=e3! from by lia),_T];rfl)];rw[qC,yo,yg,zy,a4,Rb,zM,Rb,Rb,(show zW [ab! x] s=bf! x from by rfl),Rb]:∀(d:D) (t:Int) (x:List D),vc [d] s=u! t->(t=1\/t=-1)->yM [d] s=u! n->zv (zT I!) (hj! 2 1 0) (yh 3) zZ (el! cF! (hj! 1 3 2) 3 (iR! (hk! 0 (ez! wj o! 3)) (a0! xA (zg xN (zb I! (cg! ba! 1)))))) [i!,e! t,L! (ym n)] s=bw! x->uY [d] s=bf! x) _ _ _ w1 hf (by simp[yM,zV,h.len]) c
theorem z2e{α:cd!} (g f:α->D)(p:eH! α):∀(l:List α)(acc:List D),(∀a∈l,body (g a) s=k! (aG! (p a) (b! (f a)) a!))->jG!+lm!<=cap->qK [] all dI! mB! acc s=k! (acc++(l.filter p).map f)
 | [],acc,_,_=>by simp[qK,okG] | x::xs,acc,hb,hl=>by
  rw[_p,qK,_h (by intro p hp;cases hp),hb x (by simp)];cases hp:p x with
  | true=> simp[(show jG!<cap from by simp at hl;lia),(z2e (all:=all) g f p xs (acc++[f x]) (cO! (hb y (by simp[hy]))) (by simp at hl ⊢;lia)),hp] | false=> simp[(z2e (all:=all) g f p xs acc (cO! (hb y (by simp[hy]))) (by simp at hl ⊢;lia)),hp]
theorem wb{α:cd!} (g f:α->D)(p:eH! α)(ev:α->Ev)(l:eV!) (hi:fi ρ s=k! (mB!,[]))(hg:∀a∈l,fg (g a) (vd mp ρ) s=k! (ev a))(ht:∀a∈l,ft (ev a) s=k! (p a))(he:∀a∈l,p a=c!->fe (ev a) s=k! (f a))(hl:lm!<=cap): zv fi mp fg ft fe ρ s=bw! ((l.filter p).map f):=by
 rw[uw,uK,hi,Rb,z2e g f p l [] (by
  intro a ha;simp only[hg a ha,ht a ha,Rb];cases hp:p a with
  | true=>simp[he a ha hp] | false=>rfl) (by simpa using hl)];rfl
theorem comp_map{α:cd!} (g f:α->D)(ev:α->Ev)(l:eV!) (hi:fi ρ s=k! (mB!,[]))(hg:∀a∈l,fg (g a) (vd mp ρ) s=k! (ev a))(he:∀a∈l,fe (ev a) s=k! (f a))(hl:lm!<=cap): zv fi mp fg zZ fe ρ s=bw! mA!:=by
 have:=wb (ft:=zZ) g f (λ_=>c!) ev l hi hg (λa _=>rfl) (λa ha _=>he a ha) hl;rw[(_bH.mpr (by simp))]at this;exact this
theorem z2C(h:aK!=k! aD!):zT f ρ s=k! (xs,[]):=by simp[h]
theorem qU(h:aK!=k! cD!):zT f ρ s=k! (xs,[]):=by simp[h]
structure LotB(n m:Nat)(v:g!):j! extends a2! where bd:∀x∈v,x<2 ^ m
theorem LotB.abs{n m:Nat}{v:g!}(h:eJ!):∀x∈v,dc! m:=ap! (by
 have:h! l3!<Z! (2 ^ m):=by rw[(_by (h.nn x hx))];exact (h.bd x hx)
 lia)
theorem LotB.toN(h:eJ!):∀x∈v,n4!<2 ^ m:=ap! (by
 have h1:=h.abs x hx;lia)
theorem _root_.Pm.Lot.le4(h:a2!):J!<=4/\2<=J!:=by have:=h.len;have:=h.sz;lia
theorem zdU(h:a2!)(s:Sto):yt gn! s=bN!:=by
 have l4:=h.le4;have h1:=z3k br! s (by simp;lia);have h2:=z0b v s (by lia);have g1:=z8a s ew!;have g2:=zkU s ew!;have mx:0<ie!:=by obtain⟨x,hx,h0⟩:=h.pos;have:=n0! x hx;lia
 exact (λd a1 a2 a3 a4 a5=>by simp[yt,Mof,qk,zx,a1,a2,a3,a4,a5,(h.nn _ (rr! ew!)),mx]:∀d:D,yS [d] s=bN!->yM [d] s=u! J!->yd [d,d! J!] s=bN!->vH [d] s=u! ie!->z7g [d] s=u! (jF! v)->yt [d] s=bN!) _ h1 (by simp[yM,zV]) h2 g1 g2
theorem z0V(h:a2!)(s:Sto):xo gn! s=eT!:=by exact (λd a1=>by simp[xo,Mof,z6B,zx,a1]:∀d:D,yt [d] s=bN!->xo [d] s=eT!) _ (zdU h s)
theorem nzC{mp:eC!}(hf:aK!=k! aw!)(hl:J!<=4):zv (zT f) [a!] (yh 0) (d7! 0 D!) n! ρ s=k! (eF! (nz v)):=by
 rw[wb o4! o4! (λx=>cr! x 0) (λx=>[e! x]) v (z2C hf) (λa _=>by rfl) (λa _=>by simp) (λa _ _=>by rfl) (by simp[cap];lia)];rfl
theorem z5s(h:a2!) (s:Sto):xD gn! s=aM! nk!:=by exact (λd a1 a2=>by
  have st:zx hJ! [d]=[i!]:=rfl;simp only[xD,Mof,z3F,st,_j,_l,_x];rw[zn (ρ':=[i!]) (s':=s) (by simp[a1])];simp only[z2o,yo,yx,yg,zy,zM,z00,a2,Rb];simp only[yM,zV,Rb,zcA,_W];have:bi! (h! (g9! v)=1)=nk!:=by
   unfold ended;by_cases e:g9! v=1;·simp[e]
   ·have:¬ h! (g9! v)=1:=by lia
    simp[e,this]
  rw[this]:∀d:D,xo [d] s=eT!->zv cF! [a!] (yh 0) (d7! 0 D!) n! [i!] s=k! (eF! (nz v))->xD [d] s=aM! nk!) _ (z0V h s) (nzC (mp:=[]) (by rfl) (qM!).1)
theorem zgL(hb:0<b):cg b (a % b)=cg a b:=by
 have e:=_a3 a b;refine _dp (by simp[cg]) (by simp[cg]) ?_ ?_
 ·have h1:cg b (a % b) ∣ b:=_do ..;have h2:cg b (a % b) ∣ a % b:=_c0 ..;refine Int.dvd_coe_gcd ?_ h1;have h3:=Int.dvd_add (_bL h1 (Int.dvd_mul_right b (a / b))) h2;rwa [e]at h3
 ·have h1:cg a b ∣ a:=_do ..;have h2:cg a b ∣ b:=_c0 ..;refine Int.dvd_coe_gcd h2 ?_;have:a % b=a-b*(a / b):=by lia
  rw[this];exact Int.dvd_sub h1 (_bL h2 (Int.dvd_mul_right ..))
theorem zhr(h:0<=a):cg a 0=a:=by
 unfold cg;rw[Int.gcd_zero_right];lia
theorem zel(s:Sto):∀(k:Nat)(a b:Int),0<=a->0<=b->o5!<k-> wT (d7! 1 D!) vU k [e! a,a7!] s=a6! [e! (cg a b),e! 0]
 | 0,a,b,_,_,h=>by lia | k+1,a,b,ha,hb,h=>by
  rw[wT];by_cases e:b=0
  ·subst e;simp[zhr ha]
  ·have b0:0<b:=by lia
   have m:=z5X (a:=a) s b0;have h1:=_a8 a (show b≠0 by lia);have h2:=_bl a b0;have ih:=zel s k b (a % b) hb h1 (by lia);have e1:tOf (eOp dNe o! D!) [e! a,a7!] s=k! c!:=by simp[e]
   have e2:vU [e! a,a7!] s=a6! [a7!,e! (a % b)]:=by simp[m]
   rw[e1,Rb,gC!,e2,Rb];show wT _ _ k _ s=_;rw[ih,zgL b0]
theorem z5G(ha:0<=a)(hb:0<=b)(s:Sto):vy [fI!,eE!] s=u! (cg a b):=by
 have st:zx mC! [fI!,eE!]=[e! a,a7!]:=rfl;simp only[vy,Mof,kQ,_x];rw[zn (by rw[jH];exact z2t (zel s (o5!+1) a b ha hb (by lia)) (by simp))];rfl
theorem z5O(s:Sto)(x y:fg!):∀(v:List Int)(a:Int)(all:List D)(z:Option D),0<=a->(∀x∈v,0<=x)->∃z',yL [] all (d5! (yh 2 d ρ s) (z2P ρ' s')) br! [x,e! a,z] s=a6! [x,e! (oF! a),z']
 | [],a,all,z,_,_=>⟨z,by simp[yL,okG]⟩ | b::v,a,all,z,ha,hv=>by
  have hb:=hv b (by simp);obtain⟨z',ih⟩:=z5O s x y v (cg a b) all a7! (by simp[cg]) λw hw=>hv w (by simp[hw]);refine as! z' ?_;have c2:=z5G ha hb s;simp only[_p,yL];rw[_h (by intro p hp;cases hp)];simp only[iL]at ih;have e2:z2P [x,e! a,a7!] s=a6! [x,e! (cg a b),a7!]:=by simp[c2]
  rw[ve,Rb];simp only[_F,_C];rw[e2,Rb];exact ih
theorem zjC(h:a2!) (s:Sto):z5a gn! s=u! fM!:=by
 have h1:=z0V h s;have key:∀d:D,xo [d] s=eT!->(∀z,zT n! [i!,e! 0,z] s=k! (br!,[]))->z5a [d] s=u! fM!:=λd a1 a2=>by
  have st:zx [az!,"divisor",iy!] [d]=dz! d:=rfl;simp only[z5a,Mof,zbi,st,_x];rw[zn (ρ':=dz! d) (s':=s) (by simp[a1])];rw[zn (ρ':=eX! d dp!) (s':=s) (by rfl)];obtain⟨z',e⟩:=z5O s i! a! v 0 br! a! (by lia) fw!;rw[zn (by rw[z3o,qJ,a2,Rb];exact e)];rfl
 exact key _ h1 λz=>z2C (by rfl)
end Pg
namespace Pg
open L2 Dd Pm
def nmR:Rl->Str | .nx=>"next" | .le=>"least" | .al=>iT! | .tu=>fT!
theorem zgd(h1:fo ρ s=k! aw!)(h2:fv ρ s=u! k)(hk:k∈v):zlv fo fv ρ s=u! (qH! k:Nat):=by simp only[zoi,h1,h2,Rb,vZ,_h hk]
theorem z8l(h:a2!) (s:Sto):zX gn! s=bf! [d! (a8!:Nat),rD cQ!]:=by
 have l4:=h.le4;have g1:=z8a s ew!;exact (hY! (by
  have st:zx [az!,"at"] [d]=au! d:=rfl;have gm:vH [d] s=u! ie!:=by rw[hd];exact g1
  have i1:zlv n! (bq! vH) [i!,a!] s=u! a8!:=zgd (by simp[hd]) (by exact gm ..) (kn! ew!);simp only[zX,Mof,vK,st,_j,_l,_x];rw[zn (ρ':=[i!,dj!]) (s':=s) (by rw[vm,zO,i1];rfl)];have e2:=z1H br! (a8!+1) s;rw[show ((a8!+1:Nat))=h! a8!+1 from rfl]at e2;simp only[vo,yo,z1V,zy,zM,yf,yx,zbH,qE,z1D,z00,_c,_d,Rb,z81,hd,(z2T br! a8! s),e2];rw[_h (by decide),Rb,z3N,_h (by simp[cap];omega),Rb,e2,Rb,z3N,_h (by simp[cap];omega),Rb,Rb,Rb,_h (by simp[cap])];simp[others,_aS]):∀d:D,d=aw!->zX [d] s=bf! [d! a8!,rD cQ!]) _ rfl
theorem z2z(h:nz v≠[]) (hl:J!<=4) (s:Sto):xb gn! s=u! (db!:Nat):=by
 exact (hY! (by
  have st:zx hJ! [d]=[i!]:=rfl;have gm:z7g [eF! (nz v)] s=u! (iJ! v):=by
   obtain⟨a,t,e⟩:=List.exists_cons_of_ne_nil h;rw[e];simp only[z7g,zV,_L,iL];rw[vZ]
  simp only[xb,Mof,z15,st,z0z,yo];rw[zgd (by simp[hd]) (by rw[yg,zy,(nzC (mp:=[]) (f:=n!) (ρ:=[i!]) (s:=s) (by simp[hd]) hl)];exact gm ..) (rO! h).1];rfl):∀d:D,d=aw!->xb [d] s=u! db!) _ rfl
noncomputable abbrev nL(l:jl!):C!:=n3! (λi=>aJ! (Z! i))
theorem zbm{v:g!} (p:Nat) (hl:J!<=4) (s:Sto):uD [aw!,d! (p:Nat)] s=bw! (nL (wG v p)):=by
 exact (hY! (by
  have st:zx [az!,qw!] [d,d! p]=[i!,e! p]:=rfl;simp only[uD,Mof,z7Q,st,z64,yo];rw[wb (λi:Nat=>aJ! (Z! i)) (λi:Nat=>aJ! (Z! i)) (λi=>cr! i p) (λi=>[eY! p,eY! i]) pw! (by
   rw[zds (n:=v.length) (s1:=s) (by omega) (by simp[hd])];rfl) (λa _=>by rfl) (λa _=>by
   have:bi! (h! a≠dM! p)=cr! a p:=by
    by_cases e:a=p;·simp[e]
    ·have:¬ h! a=dM! p:=by omega
     simp[e,this]
   simp only[qM,yx,yf,_d,_c,Rb,zct,this]) (λa _ _=>by rfl) (by simp[cap];omega)];rfl):∀d:D,yM [d] s=u! J!->uD [d,d! p] s=bw! (nL (wG v p))) _ (by simp[yM,zV])
noncomputable abbrev z6G(d:Nat×jl!):D:=p! [d! d.1,ab! (nL d.2)]
theorem zfJ(h:a2!) (s:Sto):qr gn! s=k! (z6G (nc! .nx)):=by
 have ne:a4! cQ!:=λz=>by
  have:=wx ew!;rw[z]at this;exact h.ne (_aV.mp this.symm)
 have g1:=z8a s ne;exact (λd e he hg=>by
  have st:zx [az!,qx!,qy!] [d]=dz! d:=rfl;have gm:vH [e] s=u! g6!:=by rw[he];exact g1
  simp only[qr,Mof,z7Y,st,_x];rw[zn (ρ':=[i!,dj!,A!]) (s':=s) (by simp[hg])];simp only[z6J,yo,z1V,zy,(zgd (by simp[he]) (by exact gm ..) (kn! ne):zlv I! (cA! vH 2) [i!,eY! a8!,A!] s=u! ((cQ!).idxOf g6!:Nat)),_d];rfl:hz! (e=rD cQ!->zX [d] s=bf! [d! a8!,e]->qr [d] s=k! (z6G (nc! .nx)))) _ _ rfl (z8l h s)
theorem zfh(h:a2!) (he:ed!) (s:Sto):vT gn! s=k! (z6G (nc! .le)):=by
 have g:=z8l h s;exact (λd e he hg=>by
  have st:zx [az!,qx!,qy!] [d]=dz! d:=rfl;simp only[vT,Mof,z6A,st,_x];rw[zn (ρ':=[i!,eY! a8!,A!]) (s':=s) (by simp[hg])];simp[he,cap,deal]:hz! (xb [e] s=u! (lp cQ!:Nat)->zX [d] s=bf! [d! (a8!:Nat),e]->vT [d] s=k! (z6G (nc! .le)))) _ _ (z2z (jK h he) (by rw[wx ew!];exact (qM!).1) s) g
theorem zjz(h:a2!) (s:Sto):kj gn! s=k! (z6G (nc! .al)):=by
 have ab:=zbm db! (qM!).1 s;exact (λd h1 h2=>by
  have st:zx [az!,gY!] [d]=au! d:=rfl;simp only[kj,Mof,zbs,st,_x];rw[zn (ρ':=[i!,eY! db!]) (s':=s) (by simp[h1])];simp[h2,cap,deal]:∀d:D,xb [d] s=u! (db!:Nat)->uD [d,d! (db!:Nat)] s=bw! (nL (wG v db!))->kj [d] s=k! (z6G (nc! .al))) _ (z2z qK! (qM!).1 s) ab
theorem zgt(h:a2!) (s:Sto):qA gn! s=k! (z6G mI!):=by
 have ab:=zbm 0 (qM!).1 s;exact (λd h1 h2=>by
  have st:zx hJ! [d]=[i!]:=rfl;simp only[qA,Mof,z8h,st,_j,_l,_x];by_cases z:fp!=0;·rw[ze9 (d:=z6G mI!) (s':=s) (by
    rw[z]at h1;rw[(show mI!=(0,[]) from by show (0,af! fp! 0 [] (wG v 0))=_;rw[_h z])];simp[h1,cap])]
  ·rw[zn (ρ':=[i!]) (s':=s) (by
    generalize fp!=y at *;simp[h1,z])];rw[(show mI!=(0,wG v 0) from by show (0,af! fp! 0 [] (wG v 0))=_;rw[_q z])];simp[h2,cap]:∀d:D,cU! d 0 s=u! fp!->uD [d,dp!] s=bw! (nL (wG v 0))->qA [d] s=k! (z6G mI!)) _ (qT (j:=0) s (by have:=(qM!).2;omega)) ab
theorem zgp(r:Rl)(s:Sto):vt [by!] s=bN!:=by simp[vt,Mof,z7S,zx,zsr,(λr=>by cases r<;>decide:∀r,h7! (z2p.lookup (nmR r)))]
theorem z60(r:Rl)(s:Sto):ua [by!] s=eT!:=by simp[ua,Mof,z48,zx,(zgp r s)]
theorem zat(r:Rl)(h:a2!)(s:Sto):zY [by!,aw!] s=eT!:=by
 have h1:=z60 r s;exact (λd e a1 a2=>by simp[zY,Mof,uM,zx,a1,a2]:hz! (ua [d] s=eT!->xo [e] s=eT!->zY [d,e] s=eT!)) _ _ h1 (z0V h s)
theorem z6w(r:Rl)(h:a2!)(he:ed!)(s:Sto):wq [by!,aw!] s=eT!:=by
 have h2:=z5s h s;rw[he]at h2;exact (λd e a1 a2=>by simp[wq,Mof,z4f,zx,a1,a2]:hz! (zY [d,e] s=eT!->xD [e] s=cS!->wq [d,e] s=eT!)) _ _ (zat r h s) h2
def dfR:Rl->Str | .nx=>mM! | .le=>mN! | .al=>mO! | .tu=>mP!
noncomputable def MR:Rl->Mir | .nx=>qr | .le=>vT | .al=>kj | .tu=>qA
theorem zuo(r:Rl)(h:a2!)(he:ed!)(s:Sto):MR r gn! s=k! (z6G l9!):=by cases r with
 | nx=>exact zfJ h s | le=>exact zfh h he s | al=>exact zjz h s | tu=>exact zgt h s
theorem zqJ(r:Rl):z2p.lookup (nmR r)=b! (dfR r):=by cases r<;>decide
theorem zuV(r:Rl):jn! ([(mM!,qr),(mN!,vT),(mO!,kj),(mP!,qA)]:dv! Mir) (dfR r) (MR r):=by
 cases r;·rfl
 ·rfl
 ·rfl
 ·rfl
theorem zsz(i:Nat)(l:jl!)(s:Sto):zc9 t! ac! (ab! (nL l)) s=aM! (bi! (i∈l)):=by
 have ev:∀a b:Int,eqV fI! eE!=(a==b):=λ_ _=>V!;have e2:∀l:List Nat,inV ac! (n3! (λj=>V.int (j:Nat)))=bi! (i∈l):=by
  intro l;induction l with
  | nil=>rfl | cons a l ih=>
   simp only[inV,_p,List.any_cons]at ih ⊢;rw[ih];by_cases q:i=a;·subst q;simp[ev]
   ·simp[ev,q,(show ¬ h! a=i from by omega)]
 have pi:∀i:Int,zaN ac!=e! i:=λ_=>V!;simp only[zc9,pi,zV,_L,(show ∀l:List Nat,z1E (nL l)=b! (n3! (λj=>V.int (j:Nat))) from by
  intro l;induction l with
  | nil=>rfl | cons a l ih=>simp[z1E,pi,ih]),e2];rfl
theorem z8j(x:C!)(s:Sto):zW [ab! x] s=bf! x:=by rfl
theorem z7U(r:Rl) (h:eJ!) (he:ed!) (hm:m<=hA!) (s:Sto):vg [by!,aw!] s=bf! [d! (aH!:Nat),eF! hb!]:=by
 have dl:=uH r dt! he;have l4:=h.toLot.le4;have oN:=zuo r dt! he s;have key:hz! (e=by!->MR r [d] s=k! (z6G l9!)->yM [d] s=u! J!->(∀i,eZ!->cU! d (i:Nat) s=u! bT!)->vg [e,d] s=bf! [d! aH!,eF! hb!]):=λd e ed h1 h2 h3=>by
  have st:zx [cZ!,az!,"deal",gY!,"divided"] [e,d]=kO! A! i! a!:=rfl;simp only[vg,Mof,z78,st,_j,_l,_x];rw[zn (ρ':=kO! A! i! (b! (.fn (dfR r)))) (s':=s) (by simp[ed,(zqJ r)])];rw[zn (ρ':=[A!,i!,b! (.fn (dfR r)),eY! aH!,L! (nL (l9!).2)]) (s':=s) (by
   rw[z42,zhJ,zjB];simp only[_c,_d];rw[(zuV r)];simp only[zy,zM,yf,_c,_d,Rb,h1,z8I,_F,_C])];have ir:jB (bC! (hg! 1)) [A!,i!,b! (.fn (dfR r)),e! aH!,L! (nL (l9!).2)] s=k! (aS! J! (λi=>aJ! (i:Nat)),[]):=by
   rw[zds (n:=v.length) (s1:=s) (by lia) (by simp[h2])];rfl
  have c:=comp_map (mp:=hj! 4 1 3) (fg:=yh 3) (fe:=eIf (gA! (zc9 t!) ba! n!) (eOp z9i (ar! 1 3) (ar! 1 2)) D!) (λi:Nat=>aJ! (i:Nat)) (λi:Nat=>aJ! (ai! (i∈(l9!).2) (bT! / bp! aH!) 0)) (λi=>[L! (nL (l9!).2),i!,e! aH!,e! i]) pw! ir (λa _=>by rfl) (e8! (by
    have i1:=zsz i (l9!).2 s;simp only[zpO,qM,yx,yf,z00,_c,_d,Rb,i1,(h3 i (by simpa using hi)),(h3 _ qL!)];by_cases q:i∈(l9!).2
    ·simp only[q,_c2,_x];rw[zgZ,b7! (by
      rcases dl.pos with z | z;·rw[z]at q;cases q
      ·exact z) (_i (h.abs _ (qN! qL!)) (_B (by decide) (by lia)))]
    ·simp only[q,_ct,_a0];rfl)) (by simp[cap];lia);simp only[z4e,yo,z1V,zy,c,Rb,zM,yf,_c,_d];rw[_h (by simp[cap])];simp[yO,_P]
 exact key _ _ rfl oN (by simp[yM,zV]) (e8! (qT s hi))
theorem eq_str(ha:PyData.strOk a=c!)(hb:PyData.strOk b=c!)(s:Sto):dEq (ax! a) (ax! b) s=aM! (a==b):=by simp[dEq,zim,eqD,zud,PyData.eqv,SeqAt.shaped,PyData.canLay0,PyData.depth,ha,hb]
theorem zhm(r:Rl):PyData.strOk (nmR r)=c!:=by cases r<;>decide +kernel
theorem zhC(r:Rl)(s:Sto):dEq by! (ax! fT!) s=aM! (ga! r .tu):=by
 rw[eq_str (zhm r) (by decide +kernel)];congr 2;cases r<;>decide +kernel
theorem zgR(r:Rl)(xs:C!)(hl:v!<=4)(s:Sto):jT [by!,aD!] s=bf! (gO! xs):=by
 have e1:=z2T xs 1 s;have e2:=z1H xs 1 s;have cp:r! (k3! 1)+r! (mV! 1)<=cap:=by simp[cap];lia
 exact (qO! (by
  have st:zx [cZ!,kp!] [d,e]=hf!:=rfl;simp only[jT,Mof,zek,st,zaQ,yo,zpO,(show tOf (go! n! (bM! fT!)) hf! s=k! (ga! r .tu) from by simp only[qM,yx,yf,z00,_c,Rb,hd,zhC]),Rb];by_cases q:r=.tu
  ·subst q;simp only[yx,zbH,yf,qE,z1D,z00,_c,_d,Rb,he];rw[show h! 1=dM! 1 from rfl,e2,Rb,e1,Rb,z3N,_h cp];rfl
  ·simp only[q,_ct];rw[z88 q];simp[he]):hz! (d=by!->e=aD!->jT [d,e] s=bf! (gO! xs))) _ _ rfl rfl
theorem z9x{α β:cd!}(f:α->D)(g:β->D):∀(l:List α)(k:List β),z3S mA! (k.map g)=(l.zip k).map (iF! [f p.1,g p.2])
 | [],_=>by rfl | _::_,[]=>by rfl | a::l,b::k=>by simp[z3S,z9x f g l k]
theorem zhR(r:Rl)(f:α->β)(xs:eV!):gO! (nG! f)=(gO! xs).map f:=by unfold mvd rot;split<;>simp[_aS]
theorem LotB.q(r:Rl)(h:eJ!)(he:ed!):Qs v aH! hb!:=zeY fw! (uH r dt! he)
theorem zoq(r:Rl)(h:eJ!)(he:ed!):∀q∈hb!,0<=q/\q<2 ^ m:=λq hq=>by
 have Q:=h.q r he;refine⟨Q.nn q hq,?_⟩;obtain⟨i,hi,rfl⟩:=gu! hq;simp only[yO,_dn,List.getElem_range];have b:=h.bd _ (qN! (by rw[<- Q.len];exact hi));have n0:=vS fw! i;split
 ·have:=Int.ediv_le_self (bp! aH!) n0;lia
 ·lia
theorem zpb{n m:Nat} {v:g!} (r:Rl) (h:eJ!) (he:ed!) (hm:m<=hA!) (s:Sto):M_step [by!,aw!] s=k! (rD dl!):=by
 have l4:=h.toLot.le4;have w:=z6w r dt! he s;have dl:=uH r dt! he;have ix := qT s qL!;have mo:=zgR r (iL (kY! aH!)) (by simp[uk (h.q r he).len];lia) s;have key:hz! (e=aw!->wq [d,e] s=eT!->vg [d,e] s=bf! [d! aH!,eF! hb!]->jT [d,p! (iL (kY! aH!))] s=bf! (gO! (iL (kY! aH!)))-> M_step [d,e] s=k! (rD dl!)):=λd e hd h1 h2 h3=>by
  have st:zx [cZ!,az!,gY!,qz!,"left"] [d,e]=kO! i! A! a!:=rfl;have oO:cU! e aH! s=u! (bp! aH!):=by rw[hd];exact ix
  simp only[M_step,Mof,zh8,st,_x];rw[zn (ρ':=kO! i! A! a!) (s':=s) (by simp[h1]),zn (ρ':=[i!,A!,e! aH!,L! (iL hb!),a!]) (s':=s) (by simp[h2])];have ir:z4P (cg! o! 3) [i!,A!,e! aH!,L! (iL hb!),a!] s=k! ((v.zip hb!).map (iF! (bO! p.1 p.2)),[]):=by simp only[zgs,zy,zM,yf,_c,_d,Rb,hd,z8c,z9x,_aH]
  have c:=comp_map (mp:=fh! 1 2 a!) (fg:=yN 2 3) (fe:=kb! 2 (hk! 3 (ar! 0 1))) (pk! (gv! (bO! p.1 p.2))) (pk! (aJ! (p.1-p.2*bp! aH!))) (λp=>[A!,e! aH!,e! p.1,e! p.2]) _ ir (λp _=>by rfl) (bo! (by
    have hq:=zoq r h he p.2 (lO!).2;have ab:bA! p.2<2 ^ m:=by
     have:h! (bA! p.2)<Z! (2 ^ m):=by rw[(_by hq.1)];exact hq.2
     lia
    simp only[yx,yf,_c,_d,Rb,oO,(z3A s ab (by lia) (h.abs _ (qN! qL!)) (by lia)),zfD])) (by simp[cap];lia);rw[(show (v.zip hb!).map (pk! (aJ! (p.1-p.2*bp! aH!)))=iL (kY! aH!) from by
   unfold left;show _=List.map o4! _;rw[List.zip,_bf,_bf])]at c;rw[zn (ρ':=[i!,A!,e! aH!,L! (iL hb!),b! (p! (iL (kY! aH!)))]) (s':=s) (by
   rw[zen,zO,yg,zy,c];rfl)];simp only[zdN,yo,yg,zy,zM,yf,_c,_d,Rb,h3];rw[zhR];rfl
 exact key _ _ rfl w (z7U r h he hm s) mo
theorem xh{M:Mir} (h:aK!=k! x):zg M (bC! f) ρ s=M [x] s:=by simp only[yg,zy,zM,h,Rb]
theorem call2{M:Mir} (h:aK!=k! x)(h2:g ρ s=k! y):zg M (aO! f g) ρ s=M [x,y] s:=by simp only[yg,zy,zM,h,h2,Rb]
theorem zeZ{M:Mir} (h:aK!=k! x)(h2:g ρ s=k! y)(h3:k ρ s=k! z):zg M (zb f (aO! g k)) ρ s=M [x,y,z] s:=by simp only[yg,zy,zM,h,h2,h3,Rb]
theorem op2(h:aK!=k! x)(h2:g ρ s=k! y):eOp o f g ρ s=o x y s:=by simp only[yx,h,h2,Rb]
theorem z2G{n:Nat} (hn:n<=4) (s:Sto):xJ [d! n] s=gJ! bS!:=by
 have st:zx [l0!,lk!] [d! n]=[aB!,a!]:=rfl;simp only[xJ,Mof,z1g,st,_x];rw[zn (ρ':=[aB!,L! (ym n)]) (by
  simp only[z0u,zO,zou,zy,zM,yf,_c,Rb,_h (show h! 0<=n/\h! n<=e3! from by lia),_T];rfl)];simp only[z0h,yo];rw[yg,zy,(comp_map (fi:=zT o!) (mp:=b4!) (fg:=cc!) (fe:=el! cF! b4! 1 (eIf (eO! n! o!) ak! D!)) (ρ:=[aB!,L! (ym n)]) (fz! (h! k)) (λi:Nat=>rD (aS! n (λj=>af! i j 1 0))) (λi=>[L! (ym n),e! (Z! i)]) iD! (qU (by rfl)) (λa _=>by rfl) (λi _=>by
   rw[yg,zy,(λi=>by
  rw[comp_map (fz! (h! k)) (λj:Nat=>aJ! (af! i j 1 0)) (λj=>[e! i,e! (Z! j)]) iD! (qU (by rfl)) (λa _=>by rfl) (λj _=>by
   by_cases q:i=j;·subst q;simp
   ·have:¬ h! i=j:=by lia
    simp[q,this]) (by simp[cap];lia)];simp[_P]:∀i:Nat,zv cF! b4! cc! zZ (eIf (eO! n! o!) ak! D!) [L! (ym n),e! (Z! i)] s=k! (eF! (aS! n (λj=>af! i j 1 0)))) i];rfl) (by simp[cap];lia))];simp only[Rb,zM,z8j];simp[one,_P]
theorem z6R(h:zV s x=b! (xs++[d])):cU! x (-1) s=k! d:=by
 simp only[dIx,h,atI,(show ixN (r! (xs++[d])) (-1)=b! v! from by
  unfold ixN;simp;lia),_L];simp
theorem zjv(xs:C!)(d:D):Dd.cutD (xs++[d]) a! (b! (-1))=xs:=by
 unfold Dd.cutD;rw[(show nR! (r! (xs++[d])) (r! (xs++[d])) (b! (-1))=v! from by
  unfold HT.sIx;simp;lia)];simp[HT.sIx]
theorem zbC{n m:Nat} {v:g!} (r:Rl) (h:eJ!) (he:ed!) (hm:m<=hA!) (s:Sto):vb [by!,aw!] s=gJ! fq!:=by
 have l4:=h.toLot.le4;have w:=z6w r dt! he s;have dv:=z7U r h he hm s;have dl:=uH r dt! he;have oP:=z2G l4.1 s;have mo := λxs hx=>zgR r xs hx s;have key:hz! (yM [e] s=u! J!->wq [d,e] s=eT!->vg [d,e] s=bf! [d! aH!,eF! hb!]->(∀xs:List D,v!<=4->jT [d,aD!] s=bf! (gO! xs))-> vb [d,e] s=gJ! fq!):=λd e h0 h1 h2 h3=>by
  have st:zx [cZ!,az!,gY!,qz!] [d,e]=fh! d e a!:=rfl;simp only[vb,Mof,z2q,st,_j,_l,_x];rw[zn (ρ':=fh! d e a!) (s':=s) (by simp[h1]),zn (ρ':=[i!,A!,e! aH!,L! (iL hb!)]) (s':=s) (by simp[h2])];have ir:z4P (cg! (a0! xJ (hg! 1)) 3) [i!,A!,e! aH!,L! (iL hb!)] s=k! (((one J!).zip hb!).map (iF! [rD p.1,d! p.2]),[]):=by simp only[zgs,zy,zM,yf,yg,_c,_d,Rb,h0,oP,z8c,z9x,_aH]
  have c:=comp_map (mp:=fh! 0 2 a!) (fg:=yN 2 3) (fe:=dW! jT (bc! (bc! (ge! I! o!) (uP (bC! (bc! (ar! 2 1) ba!)))) (eG! I! (gH! 1)))) (λp:List Int×Int=>gv! [rD p.1,d! p.2]) (λp:List Int×Int=>rD (gO! (xi aH! p.1 p.2))) (λp=>[i!,e! aH!,bX! p.1,e! p.2]) _ ir (λp _=>by rfl) (bo! (by
    have hl := (z9R J!).row p.1 (lO!).1;have hb:aH!<r! p.1:=by rw[hl];exact dl.lt
    have e1:=z2T (iL p.1) aH! s;have e2:=z1H (iL p.1) (aH!+1) s;have e3:=qT (j:=aH!) s hb;generalize aH!=b at *;have f1:eSl I! zD (yy o!) [i!,eY! b,bX! p.1,e! p.2] s=bf! ((iL p.1).take b):=by exact e1
    have f2:eSl I! (yy (gH! 1)) zD [i!,e! (h! b),bX! p.1,e! p.2] s=bf! ((iL p.1).drop (b+1)):=by exact e2
    have f3:uP (bC! (bc! (ar! 2 1) ba!)) [i!,e! (h! b),bX! p.1,e! p.2] s=bf! [d! (p.1.getD b 0+p.2)]:=by
     simp only[z1V,zy,zM,yx,yf,_c,_d,Rb,e3,z81];rw[_h (by simp[cap])]
    rw[call2 (x:=d) (by rfl) (show eOp xj (bc! (ge! I! o!) (uP (bC! (bc! (ar! 2 1) ba!)))) (eG! I! (gH! 1)) [i!,a7!,bX! p.1,e! p.2] s=bf! (iL (xi b p.1 p.2)) from by
     rw[yx,yx,f1,Rb,f3,Rb,z3N,_h (by simp[cap];lia),Rb,f2,Rb,z3N,_h (by simp[cap];lia)];simp[xi,_ce,_aS]),h3 _ (by simp[xi];lia),zhR])) (by simp[cap,one];lia);simp only[z1u,yo];rw[yg,zy,c];simp only[Rb,zM,z8j];unfold jC z79;rw[yZ];simp only[tD];rw[_bf,List.zip,_bf]
 exact key _ _ (by simp[yM,zV]) w dv mo
theorem _root_.Pg.LotB.step{n m:Nat}{v:g!}(r:Rl)(h:eJ!)(he:ed!):oo! m dl!:=by
 refine⟨h.toLot.step r he,ap! ?_⟩;have:=zqu (B:=2 ^ m-1) r h.toLot he (cO! (by have:=h.bd y hy;lia)) x hx;lia
theorem ziV(hd:d=by!) (hm:m<=hA!) (s:Sto) (Rn:fP! c):∀(pre:List (List Int)),oo! m c->pre.length+pj!<=50000-> wT (fE! (a0! xD (fb! 2 dQ!))) z91 (pj!+1) [i!,A!,N!] (s++[dY! [c]])=F! [i!,A!,N!] (s++[dY! ls]):=by
 have de:∀(pre:List (List Int)) (c:List Int),oo! m c->z47 (tOf (a0! xD (fb! 2 dQ!))) [i!,A!,N!] (s++[dY! [c]])=.ok (! nb! c) (s++[dY! [c]]):=λpre c h=>by
  simp only[z8C,qM,yg,zy,zM,yx,yf,zg2,z00,_c,_d,Rb];rw[(z6R (x:=l7!) (d:=rD c) (xs:=pre.map rD) (s:=s++[dY! [c]]) (by simp[zV]))];simp only[Rb];rw[(z5s dt! (s++[dY! [c]]))];rfl
 induction Rn with
 | @done v hend=>
  intro pre h hl;rw[wT,de pre v h,hend];rfl | @step v ls hend Rn ih=>
  intro pre h hl;rw[_j,wT,de pre v h,hend,Rb];have cn:=zpb r h hend hm (s++[dY! [v]]);rw[<- hd]at cn;have ix:=z6R (x:=l7!) (d:=aw!) (xs:=pre.map rD) (s:=s++[dY! [v]]) (by simp[zV]);have body:z91 [i!,A!,N!] (s++[dY! [v]])=F! [i!,A!,N!] (s++[fc! (pre++[v]++[dl!])]):=by
   have bn:(s++[dY! [v]]).set cf! (dY! [v]++[rD dl!])=s++[fc! (pre++[v]++[dl!])]:=by simp
   simp only[z91,z0G,z8y,yg,zy,zM,yx,yf,zg2,z00,_c,_d,Rb];rw[ix];simp only[Rb];rw[cn];simp only[Rb];rw[(show E! (s++[dY! [v]]) cf! (dY! [v]) from by simp)];simp only;rw[b7! (yH _) (by simp[cap]at hl ⊢;lia),bn];rfl
  rw[body,Rb];simp only;rw[(ih (pre++[v]) (oQ! hend) (by simp at hl ⊢;lia))];simp
theorem zre(r:Rl) (h:eJ!) (Rn:fP! v) (hm:m<=hA!) (hl:oO!) (s:Sto):ziv [by!,aw!] s=gG! (s++[pv!]):=by
 have w:=zat r dt! s;have key:hz! (d=by!->e=aw!->ziv [d,e] s=gG! (s++[pv!])):=qO! (by
  have st:zx [cZ!,az!,"lots"] [d,e]=eX! d e:=rfl;simp only[ziv,Mof,zle,st,_x];rw[zn (ρ':=eX! d e) (s':=s) (by simp[(show zY [d,e] s=eT! from by rw[hd,he];exact w)])];rw[zn (by
   simp only[zcR,zO,z8r,zy,zM,yf,_d,_c,Rb];rw[b7! (by simp[cap]) (by simp[flC,flN,(show e.flat=c! from by rw[he];exact (yH _))])];rfl)];have lp:=ziV (e:=e) hd hm s Rn [] h (by simpa using hl);rw[_as]at lp;rw[show fc! [v]=[e] from by rw[he];rfl]at lp;rw[zn (by exact z2t lp (by simp))];rfl)
 exact key _ _ rfl rfl
theorem zi9(h:eJ!)(Rn:fP! v):∀a∈ls.dropLast,oo! m a/\nb! a=t!:=by induction Rn with
 | done e=>simp | step e R2 ih=>
  intro a ha;rw[List.dropLast_cons_of_ne_nil R2.ne]at ha;rcases d2! ha with rfl | ha;·exact di! h
  ·exact ih (oQ! e) a ha
theorem zmC{n m:Nat}{B:Int}{P:Tb}{c x:g!}(I:PI n B P c x)(hB:B<2 ^ m):Bd m P:=λrow hr y hy=>by
 have:=I.nn row hr y hy;have:of!<Z! (2 ^ m):=by rw[(show Z! (2 ^ m)=2 ^ m from by rfl)];lia
 lia
theorem zha{n m:Nat}{v:g!}(r:Rl)(h:eJ!)(he:ed!):Bd m fq!:=λrow hr y hy=>by
 have:=zn3 (B:=2 ^ m-1) r h.toLot he (cO! (by have:=h.bd y hy;lia)) row hr y hy;have e2:Z! (2 ^ m)=2 ^ m:=by rfl
 lia
def z3e:Tb->dZ! Tb->dZ! Tb
 | P,[]=>[P] | P,T::ts=>P::z3e (jw P T) ts
theorem z7Z:∀(ts:List Tb)(P:Tb),(z3e P ts).getLast? = b! (ts.foldl jw P)
 | [],P=>rfl | T::ts,P=>by rw[z3e,List.getLast?_cons,z7Z ts];rfl
theorem z8k(T:Tb):(tD T).flat=c!:=by
 show c0! nh!;induction T with
 | nil=>rfl | cons r T ih=>simp only[_p,flC,flN,ih,Bool.and_true];exact yH r
theorem z66(d t:D) (hn:a9!) (hB:B<2 ^ m) (hm:m<=hA!) (hx:∀y∈x,y<=B) (s:Sto) (Rn:fP! c):∀(P:Tb) (pre:List Tb) (all:List D) (z:Option D),oo! m c->PI n B P c x->pre.length+pj!<=50000-> ∃z',yL [] all (d5! (yh 3 d ρ s) (xl ρ' s')) eW! [i!,b! t,N!,z] (s++[fA! (pre++[P])])=F! [i!,b! t,N!,z'] (s++[fA! (pre++z3e P jg!)]):=by induction Rn with
 | done he=>exact λP pre all z h I hl=>⟨z,by simp[zK,yL,okG,z3e]⟩ | @step v ls he R2 ih=>
  intro P pre all z h I hl;have mm:=zao (s++[fA! (pre++[P])]) hn I.tab (z0R r dt! he) (zmC I hB) (zha r h he) (by lia) (by lia);obtain⟨z',ih⟩:=ih (jw P fq!) (pre++[P]) all kc! (oQ! he) (I.step r hx dt! he) (by simp at hl ⊢;lia);have ix:=z6R (x:=l7!) (d:=tD P) (xs:=pre.map tD) (s:=s++[fA! (pre++[P])]) (by simp[zV]);have body:xl [i!,b! t,N!,kc!] (s++[fA! (pre++[P])])=F! [i!,b! t,N!,kc!] (s++[fA! (pre++[P]++[jw P fq!])]):=by
   have gt:E! (s++[fA! (pre++[P])]) cf! (fA! (pre++[P])):=by simp
   have bn:(s++[fA! (pre++[P])]).set cf! (fA! (pre++[P])++[tD (jw P fq!)])=s++[fA! (pre++[P]++[jw P fq!])]:=by simp
   have fl:=z8k (jw P fq!);generalize (s++[fA! (pre++[P])])=S at *;have cc:zg va (cg! (fb! 2 dQ!) 3) [i!,b! t,N!,kc!] S=.ok (tD (jw P fq!)) S:=by
    rw[call2 (by exact ix) (y:=tD fq!) (by rfl)];exact mm
   rw[xl,z0G,z8y];simp only[yf,_c,_d,Rb];rw[cc];simp only[Rb];rw[gt];simp only;rw[b7! fl (by simp[cap]at hl ⊢;lia),bn];rfl
  rw[R2.tabs_cons,_p,yL,_h (by intro p hp;cases hp),ve,Rb];simp only[_F,_C];rw[body,Rb];simp only;rw[ih,z3e];simp
theorem zgQ(r:Rl) (h:eJ!) (Rn:fP! v) (hm:m<=hA!) (hl:oO!) (s:Sto):wd [d! n,ab! eW!] s=gG! (s++[fA! (z3e bS! jg!)]):=by
 have key:∀d t:D,d=d! n->t=ab! eW!->wd [d,t] s=gG! (s++[fA! (z3e bS! jg!)]):=λd t hd ht=>by
  have st:zx [l0!,m9!,"products",ef!] [d,t]=fh! d t a!:=rfl;simp only[wd,Mof,qu,st,_x];rw[zn (ρ':=fh! d t N!) (s':=s++[[tD bS!]]) (by
   have c2:zg xJ (co! 0) (fh! d t a!) s=gJ! bS!:=by rw[hd];exact (z2G (n:=n) (by have:=h.sz;lia) s)
   rw[wF,zO,z8r,zy,c2];simp only[Rb,zM];rw[b7! (by simp[cap]) (by simp[flC,flN,(z8k bS!)])];rfl)];obtain⟨z',lp⟩:=z66 d t h.sz (B:=2 ^ m-1) (by lia) hm (cO! (by have:=h.bd y hy;lia)) s Rn bS! [] eW! none h (PI.start dt! (cO! (by have:=h.bd y hy;lia))) (by simpa using hl);rw[zn (by
   rw[wC,qJ,qU (xs:=eW!) (by simp[ht])];exact lp)];rfl
 exact key _ _ rfl rfl
theorem zhT{i:Int}(h0:0<=i)(h:i<2 ^ bB!):gV!<BIG:=by exact Int.ofNat_lt.mp (_cJ (by rw[(_by h0)];exact h) (by decide +kernel))
theorem z0I(s:Sto)(ha:0<=a)(gv:a<2 ^ bB!)(hb:0<=b)(iQ:b<2 ^ bB!):yT fI! eE! s=u! (a*b):=by rw[zfO,b7! (zhT ha gv) (zhT hb iQ)]
theorem zgG(s:Sto)(hb:0<b)(iQ:b<2 ^ bB!):z9i fI! eE! s=u! (a / b):=by rw[zgZ,b7! hb (zhT (by lia) iQ)]
theorem zoH(ns:g!)(k:Nat)(s:Sto):∃c,wH [ek!,d! k] s=u! c:=by
 by_cases h:k<e7!
 ·have hk:k<e7!:=by omega
  have e:ixN (r! (iL ns)) k=b! k:=by
   unfold ixN;rw[_h (by omega),_h (by simpa using hk)];rfl
  simp[wH,Mof,qq,zx,yM,zV,hk,(show cU! ek! k s=u! (ns[k]) from by
   simp only[dIx,zV,atI,e,_L];simp[h])]
 ·exact⟨0,by simp[wH,Mof,qq,zx,yM,zV,(by omega)]⟩
def Pot(s:Sto)(l:Nat):j!:=∃p:Int,E! s l [d! p]
theorem Pot.lt(h:Pot s l):l<cf!:=by
 obtain⟨p,e⟩:=h;exact cE! e
theorem Pot.app(h:Pot s l)(t:Sto):Pot (s++t) l:=by
 obtain⟨p,e⟩:=h;exact⟨p,by rw[_G (cE! e)];exact e⟩
structure qQ(s s':Sto)(l:Nat):j! where
 pot:Pot s' l
 len:s'.length=cf!
 oth:∀m,m≠l->s'[m]? = s[m]?
theorem zq7(h:Pot s l)(h0:0<far)(h1:far<2 ^ bB!):∃r s',zC [ea!,d! far] s=bR! (d! r)/\0<=r/\r<far/\qQ s s' l:=by
 obtain⟨p,e⟩:=h;refine⟨p % far,s.set l [d! (p / far)],?_,_a8 _ (by lia),_bl _ h0,⟨p / far,by rw[_ag (cE! e)]⟩,by simp,λm hm=>_ab (_bM hm)⟩;simp[zC,Mof,z44,zx,(show cU! ea! 0 s=u! p from by simp[dIx,zV,e,atI,ixN]),z5X s h0,zgG s h0 h1,e,ixN,z2d,List.replicate]
theorem zoT(s:Sto):zdP (d! 10) (d! 18) s=u! 1000000000000000000:=by rfl
theorem zuj(s:Sto):zdP (d! 10) (d! 6) s=u! 1000000:=by rw[zll];rfl
theorem pow_step(h:m<2147483648 ^ j)(hr:r<l2!):m*l2!+r<2147483648 ^ (j+1):=by lia
theorem zpS{m j:Nat}(h:m<2147483648 ^ j)(hj:j<=64):h! m<2 ^ bB!:=by
 have h2:2147483648 ^ 64<=2 ^ bB!:=by decide +kernel
 exact Int.ofNat_lt.mpr (_i h (_Y (_B (by decide) hj) h2))
theorem zsp(c:Int) (s:Sto):∃p:Int,jL [d! c] s=gG! (s++[[d! p]]):=by
 by_cases h:1000000000000000000<=c;·exact⟨c-1000000000000000000,by simp[jL,Mof,z1C,zx,zoT,h,flC,flN,z2d,cap,List.replicate]⟩
 ·have lp:∃ ρ' s',z3Y [e! c,e! 0,a!,a!] s=F! ρ' s'/\∃(m:Nat) (a b:Option D),ρ'=[e! c,e! m,a,b]/\s'=s:=by
   obtain⟨ρ',s',e,m,a,b,e1,e2,_⟩:=z10 (body:=d5! (yh 2 d ρ s) ((be! z3Z z3L z43) ρ' s')) (λj ρ s'=>∃(m:Nat) (a b:Option D),ρ=[e! c,e! m,a,b]/\s'=s/\m<2147483648 ^ j) (ym 64) 0 (λj x hx ρ s' hi=>by
    obtain⟨m,a,b,rfl,rfl,hm⟩:=hi;obtain⟨hj,rfl⟩:=z2y hx;rw[_ap]at hm;have a1:zdO (d! c) (d! pd!) s'=bR! (d! (c % pd!)):=z5X s' (by decide);have a2:yT (d! 7919) (d! j) s'=bR! (d! (7919*j)):=z0I s' (by decide) (by decide +kernel) (by lia) (by lia);have a3:yT (d! (c % pd!+7919*j+1)) (d! 48271) s'=bR! (d! ((c % pd!+7919*j+1)*48271)):=z0I s' (by lia) (by lia) (by decide) (by decide +kernel);generalize iA:(c % pd!+7919*j+1)*48271 % 2147483647=x1;have b0:0<=x1:=by rw[<- iA];exact _a8 _ (by decide)
    have a4:zdO (d! ((c % pd!+7919*j+1)*48271)) (d! 2147483647) s'=bR! (d! x1):=by rw[<- iA];exact z5X s' (by decide)
    have a6:yT (d! 69621) (d! j) s'=bR! (d! (69621*j)):=z0I s' (by decide) (by decide +kernel) (by lia) (by lia);generalize gC:(x1*x1+69621*j+7) % l2!=x2;have a7:zdO (d! (x1*x1+69621*j+7)) (d! l2!) s'=bR! (d! x2):=by rw[<- gC];exact z5X s' (by decide)
    have a8:yT (d! m) (d! l2!) s'=bR! (d! (m*l2!)):=z0I s' (by lia) (zpS hm (by lia)) (by decide) (by decide +kernel);obtain⟨y,rfl⟩:=Int.eq_ofNat_of_zero_le (show 0<=x2 from by rw[<- gC];exact _a8 _ (by decide));refine⟨[e! c,eY! (m*l2!+y),aV!,e! y],s',?_,m*l2!+y,_,_,rfl,rfl,?_⟩;·simp[a1,a2,a3,a4,(z0I s' b0 (by lia) b0 (by lia)),a6,a7,a8]
    ·rw[_ap];exact pow_step hm (by lia)) [e! c,e! 0,a!,a!] s ⟨0,a!,a!,rfl,rfl,by decide⟩;exact⟨ρ',s',by exact e,m,a,b,e1,e2⟩
  obtain⟨ρ',s',e,m,a,b,rfl,rfl⟩:=lp;have st:zx ["_law_cell",cP!,"_law_j",ll!] [d! c]=[e! c,a!,a!,a!]:=rfl;simp only[jL,Mof,z1C,st,_j,_l,_x];rw[zn (ρ':=[e! c,a!,a!,a!]) (s':=s') (by simp[zoT,h]),zn (ρ':=[e! c,e! 0,a!,a!]) (s':=s') (by rfl),zn e];simp[flC,flN,z2d,cap]
theorem zaZ{α:cd!} (hg:okG gd all s)(g f:α->D):∀(l:List α)(acc:List D),(∀a∈l,body (g a) s=k! (b! (f a)))->jG!+lm!<=cap->qK gd all dI! mB! acc s=k! (acc++mA!)
 | [],acc,_,_=>by simp[qK,hg] | x::xs,acc,hb,hl=>by
  have ih:=zaZ hg g f xs (acc++[f x]) (cO! (hb y (by simp[hy]))) (by simp at hl ⊢;lia);have hc:jG!<cap:=by simp at hl;lia
  rw[_p,qK,_h hg,hb x (by simp)];simp[hc,ih]
structure LS(s0:Sto)(l:Nat)(s:Sto)(xs:g!):j! where
 pot:Pot s l
 len:cf!=kt!+1
 at_:E! s kt! (iL xs)
 oth:∀m,m≠l->m<kt!->s[m]? = s0[m]?
theorem LS.drawn(h:LS s0 l s xs)(hl:l<kt!)(d:qQ s s' l):LS s0 l s' xs:= ⟨d.pot,by rw[d.len,h.len],by rw[d.oth _ (by lia)];exact h.at_,λm h1 h2=>by rw[d.oth m h1];exact h.oth m h1 h2⟩
theorem LS.set(h:LS s0 l s xs)(hl:l<kt!)(ys:g!):LS s0 l (s.set kt! (iL ys)) ys:=by
 refine⟨?_,by simp[h.len],_ag (by rw[h.len];lia),λm h1 h2=>?_⟩
 ·obtain⟨p,e⟩:=h.pot;exact⟨p,by rw[_ab (by lia)];exact e⟩
 ·rw[_ab (by lia)];exact h.oth m h1 h2
theorem LS.fin(h:LS s0 l s xs)(hl:l<kt!):qQ s0 (s.take kt!) l:=by
 obtain⟨p,e⟩:=h.pot;refine⟨⟨p,by rw[_al hl];exact e⟩,by simp[h.len],λm h1=>?_⟩;by_cases h2:m<kt!;·rw[_al h2];exact h.oth m h1 h2
 ·rw[_J (by simp[h.len];lia),_J (by lia)]
theorem LS.start(d:qQ s0 s l)(h:Pot s0 l)(xs:g!):LS s0 l (s++bF! xs) xs:= ⟨d.pot.app _,by simp[d.len],by rw[<- d.len];simp,λm h1 h2=>by rw[_G (by rw[d.len];exact h2)];exact d.oth m h1⟩
theorem qQ.trans(a:qQ s s1 l)(b:qQ s1 s2 l):qQ s s2 l:=⟨b.pot,by rw[b.len,a.len],λm h=>by rw[b.oth m h,a.oth m h]⟩
theorem vB(h:Pot s l)(h0:0<far)(h1:far<2 ^ bB!)(hf:aK!=k! ea!)(hg:g ρ s=u! far):∃r s',zg zC (aO! f g) ρ s=bR! (d! r)/\0<=r/\r<far/\qQ s s' l:=by
 obtain⟨r,s',e,a,b,c⟩:=zq7 h h0 h1;exact⟨r,s',by rw[pm! hf hg,e],a,b,c⟩
theorem zot(s:Sto):zdP (d! 10) (d! 30) s=u! fa!:=by rw[zll];rfl
theorem wZ(h0:0<=i)(h:E! xs i2! d):cU! cD! i s=k! d:=by
 have hj := cE! h;simp only[dIx,zV,atI,(show kA! i=b! i2! from by
  unfold ixN;rw[_h h0,_h (by lia)]),_L,h]
theorem zan(hl:E! s l xs)(h0:0<=i)(h:E! xs i2! d):cU! ea! i s=k! d:=by
 have hj := cE! h;simp only[dIx,zV,hl,atI,(show kA! i=b! i2! from by
  unfold ixN;rw[_h h0,_h (by lia)]),_L,h]
theorem zlq(ha:gk! s=k! (.loc L))(hb:fb ρ s=b2! (d! x))(at_:E! s2 L (iL xs))(hl:v!<e3!):wk (zcH fa fb) ρ s=F! ρ (nZ! L (iL (xs++[x]))):=by
 rw[z0G,z8y,ha,Rb];simp only;rw[hb,Rb];simp only[at_];rw[b7! (z2d x) (by simp[cap];lia)];simp
theorem z5y{i x:Int}(hc:fc ρ s=T! (d! x))(ha:gk! s1=T! (.loc L))(hb:fK!=b2! ac!)(at_:E! s2 L (iL xs))(h0:0<=i)(h1:i<v!):z0y fa fb fc ρ s=F! ρ (nZ! L (iL (ip! i2! x))):=by
 rw[zhq,hc,Rb,ha,Rb,hb,Rb];simp only[at_,(show ixN (r! (iL xs)) i=b! i2! from by
  unfold ixN;rw[_h h0,_h (by simp;lia)]),z2d,_x,_ba]
theorem zi5{xs:g!} (h:∀y∈xs,0<=y/\y<=B)(hx:0<=x/\x<=B):∀y∈ip! i x,0<=y/\y<=B:=cO! (by
 rcases _A hy with h2 | h2;·exact h y h2
 ·rw[h2];exact hx)
theorem zmP(s:Sto)(h0:0<=r)(h1:r<6):∃far:Int,cU! (ab! [d! 13,d! e3!,d! 1000000,d! fa!,d! 3,d! 60]) r s=u! far/\3<=far/\far<=fa!:=by
 have:r=0\/r=1\/r=2\/r=3\/r=4\/r=5:=by lia
 rcases this with rfl | rfl | rfl | rfl | rfl | rfl;·exact⟨13,kZ! (by decide),by decide,by decide⟩
 ·exact⟨e3!,kZ! (by decide),by decide,by decide⟩
 ·exact⟨1000000,kZ! (by decide),by decide,by decide⟩
 ·exact⟨fa!,kZ! (by decide),by decide,by decide⟩
 ·exact⟨3,kZ! (by decide),by decide,by decide⟩
 ·exact⟨60,kZ! (by decide),by decide,by decide⟩
theorem bB:h! fa!<2 ^ bB!:=by decide +kernel
theorem kA{x:Int}(h:dm! x):x<2 ^ bB!:=_bm h (by decide +kernel)
theorem zec{s0:Sto} {l:Nat} {far thin:Int} (hl:l<kt!) (f0:3<=far) (f1:far<=fa!) (a1:fg!):∀(k j:Nat) (all:List D) (s:Sto) (xs:List Int) (p q:Option D),LS s0 l s xs->(∀y∈xs,0<=y/\y<=fa!)->v!=j->j+k<=4-> ∃s' ys p' q',yL [] all (d5! (yh 5 d ρ s) ((zA qX jh) ρ' s')) ((n2! j k).map λi=>aJ! (Z! i)) [M!,a1,bZ!,cs!,mj!,p,q,a!] s=F! [M!,a1,bZ!,cs!,mj!,p',q',a!] s'/\LS s0 l s' ys/\(∀y∈ys,0<=y/\y<=fa!)/\dr!=j+k
 | 0,j,all,s,xs,p,q,h,hx,hj,_=>⟨s,xs,p,q,by simp[yL,okG],h,hx,by lia⟩ | k+1,j,all,s,xs,p,q,h,hx,hj,hk=>by
  obtain⟨r1,s1,e1,rd,re,d1⟩:=vB (ρ:=[M!,a1,bZ!,cs!,mj!,aV!,q,a!]) (f:=n!) (g:=I!) h.pot (by lia) (_bm f1 bB) (by rfl) (by rfl);have h1:=h.drawn hl d1;obtain⟨r2,s2,e2,rf,rg,d2⟩:=vB (ρ:=[M!,a1,bZ!,cs!,mj!,aV!,e! (r1+1),a!]) (f:=n!) (g:=O! 4) (far:=4) h1.pot (by decide) (kA (by decide)) (by rfl) (by rfl);have h2:=h1.drawn hl d2;have hv:∃x:Int,yT (d! (r1+1)) (d! (aG! (jx! thin r2) 1 0)) s2=b2! (d! x)/\0<=x/\x<=fa!:=by
   refine⟨(r1+1)*(aG! (jx! thin r2) 1 0),z0I s2 (by lia) (_bm (show r1+1<=fa! by lia) bB) (by split<;>decide) (by split<;>exact kA (by decide)),?_⟩;split<;>lia
  obtain⟨x,ex,x0,x1⟩:=hv;have h3:=h2.set hl (xs++[x]);obtain⟨s',ys,p',q',e3,h4,y4,l4⟩:=zec hl f0 f1 a1 k (j+1) all (nZ! kt! (iL (xs++[x]))) (xs++[x]) aV! (e! (r1+1)) h3 (by
   intro y hy;rcases mX! hy with hy | hy;·exact hx y hy
   ·simp at hy;subst hy;exact as! x0 x1) (by simp[hj]) (by lia);refine⟨s',ys,p',q',?_,h4,y4,by lia⟩;have b1:qX [M!,a1,bZ!,cs!,mj!,aV!,q,a!] s=hl! [M!,a1,bZ!,cs!,mj!,aV!,e! (r1+1),a!]:=by
   rw[qX,zO,yx,e1];rfl
  have b2:jh [M!,a1,bZ!,cs!,mj!,aV!,e! (r1+1),a!] s1=F! [M!,a1,bZ!,cs!,mj!,aV!,e! (r1+1),a!] (nZ! kt! (iL (xs++[x]))):=by
   have ev:eOp yT (zd 6) (a0! zdf (eOp dGe (dW! zC (O! 4)) ba!)) [M!,a1,bZ!,cs!,mj!,aV!,e! (r1+1),a!] s1=b2! (d! x):=by
    have g:zg zdf (bC! (eOp dGe (dW! zC (O! 4)) ba!)) [M!,a1,bZ!,cs!,mj!,aV!,e! (r1+1),a!] s1=b2! (d! (aG! (jx! thin r2) 1 0)):=by
     rw[yg,zy,yx,e2];rfl
    rw[yx];simp only[yf,_c,_d,Rb];rw[g,Rb,ex]
   rw[jh];exact zlq (by rfl) ev h2.at_ (by lia)
  rw[List.range'_succ,_p,yL,_h (by intro p hp;cases hp),ve,Rb];simp only[_F,_C];rw[zko,b1,Rb];simp only;rw[b2,Rb];simp only;exact e3
theorem zdS: zex n (k! aw!)=.ok aw! (s.take n):=z0U (yH v)
theorem zgK(h:a4! ns)(e:E! s L (iL ns))(hf:aK!=k! (.loc L)):tOf (go! (a0! vH f) D!) ρ s=k! (ga! nl! 0):=by
 rw[qM,yx,xh hf,zjt h e];rfl
theorem zfd(h:a4! ns)(hn:∀y∈ns,0<=y)(hm:nl!≠0):∃x∈ns,0<x:=⟨nl!,kn! h,by have:=hn _ (kn! h);lia⟩
theorem zsL{s:Sto} {l:Nat} (h:Pot s l):∃n v s',z0W [ea!] s=bR! aw!/\lN!/\qQ s s' l:=by
 have hl:=h.lt;have st:zx [e9!,fu!,qF!,"_law_thin",kq!,eg!,cP!,ll!] [ea!]=[M!,a!,a!,a!,a!,a!,a!,a!]:=rfl;obtain⟨r1,s1,e1,a1,b1,d1⟩:=vB (ρ:=[M!,a!,a!,a!,a!,a!,a!,a!]) (f:=n!) (g:=O! 3) (far:=3) h (by decide) (kA (by decide)) (by rfl) (by rfl);obtain⟨n,hn⟩:∃n:Nat,2+r1=h! n:=⟨eQ! (2+r1),by lia⟩;have bg:a9!:=by unfold Sz;lia
 have p1:z0J [M!,a!,a!,a!,a!,a!,a!,a!] s=hl! [M!,aB!,a!,a!,a!,a!,a!,a!]:=by
  rw[z0J,zO,yx,z00,Rb,e1];simp[hn]
 obtain⟨r2,s2,e2,a2,b2,d2⟩:=vB (ρ:=[M!,aB!,a!,a!,a!,a!,a!,a!]) (f:=n!) (g:=O! 6) (far:=6) d1.pot (by decide) (kA (by decide)) (by rfl) (by rfl);obtain⟨far,ef,f0,f1⟩:=zmP s2 a2 b2;have p2:z0B [M!,aB!,a!,a!,a!,a!,a!,a!] s1=F! [M!,aB!,bZ!,a!,a!,a!,a!,a!] s2:=by
  rw[z0B,zO,yx];have:kY (fn! (O! 13) (O! e3!) (eOp zdP (O! 10) (O! 6)) (eOp zdP (O! 10) (O! 30)) (aO! (O! 3) (O! 60))) [M!,aB!,a!,a!,a!,a!,a!,a!] s1=T! (ab! [d! 13,d! e3!,d! 1000000,d! fa!,d! 3,d! 60]):=by
   simp only[z6p,zy,zM,z00,yx,Rb,zuj,zot];rw[_h (by decide)]
  rw[this,Rb,e2,Rb,ef];rfl
 obtain⟨thin,s3,e3,a3,b3,d3⟩:=vB (ρ:=[M!,aB!,bZ!,a!,a!,a!,a!,a!]) (f:=n!) (g:=O! 4) (far:=4) d2.pot (by decide) (kA (by decide)) (by rfl) (by rfl);have p3:z0x [M!,aB!,bZ!,a!,a!,a!,a!,a!] s2=F! [M!,aB!,bZ!,cs!,a!,a!,a!,a!] s3:=by
  rw[z0x,zO,e3];rfl
 have dd:=bL! (d1.trans d2) d3;have p4:z0H [M!,aB!,bZ!,cs!,a!,a!,a!,a!] s3=F! [M!,aB!,bZ!,cs!,N!,a!,a!,a!] (s3++bF! []):=by
  rw[z0H,zO,z8r,zM,Rb,b7! (by decide) rfl,dd.len];rfl
 have L0:=LS.start dd h [];obtain⟨s5,xs,p',q',e5,L5,x5,n5⟩:=zec (thin:=thin) hl f0 f1 aB! n 0 (ym n) (s3++bF! []) [] none none L0 (by decide) rfl (by unfold Sz at bg;lia);have p5:z0f [M!,aB!,bZ!,cs!,N!,a!,a!,a!] (s3++bF! [])=F! [M!,aB!,bZ!,cs!,N!,p',q',a!] s5:=by
  rw[z0f,qJ,zds (n:=n) (s1:=s3++bF! []) (by unfold Sz at bg;lia) (by rfl),Rb];rw[show (ym n)=(n2! 0 n).map (λi=>aJ! (Z! i)) from by rw[ym,List.range_eq_range']]at e5 ⊢;exact e5
 rw[_ap]at n5;have oQ:a4! xs:=λz=>by rw[z]at n5;simp at n5;unfold Sz at bg;lia
 have s8:∃s6 ys,jb [M!,aB!,bZ!,cs!,N!,p',q',a!] s5=F! [M!,aB!,bZ!,cs!,N!,p',q',a!] s6/\LS s l s6 ys/\(∀y∈ys,0<=y/\y<=fa!)/\dr!=n:=by
  have t:=zgK (f:=zd 4) (ρ:=[M!,aB!,bZ!,cs!,N!,p',q',a!]) oQ L5.at_ (by rfl);by_cases z:jE! xs=0
  ·obtain⟨ra,sa,ea,aa,ba,da⟩:=vB (ρ:=[M!,aB!,bZ!,cs!,N!,p',q',a!]) (f:=n!) (g:=I!) (far:=far) L5.pot (by lia) (_bm f1 bB) (by rfl) (by rfl);have La:=L5.drawn hl da;obtain⟨rb,sb,eb,ab,bb,db⟩:=vB (ρ:=[M!,aB!,bZ!,cs!,N!,p',q',a!]) (f:=n!) (g:=o!) (far:=n) La.pot (by unfold Sz at bg;lia) (kA (by unfold Sz at bg;lia)) (by rfl) (by rfl);have Lb:=La.drawn hl db;refine⟨_,_,?_,Lb.set hl (ip! rb.toNat (1+ra)),zi5 x5 (by lia),by simp[n5]⟩;rw[jb,z7r,t,Rb,_h (by simpa using z),z3y];exact z5y (by rw[yx,z00,Rb,ea];rfl) (by rfl) eb Lb.at_ ab (by lia)
  ·refine⟨s5,xs,?_,L5,x5,n5⟩;rw[jb,z7r,t,Rb,_q (by simpa using z)];rfl
 obtain⟨s6,ys,p8,L6,x6,n6⟩:=s8;obtain⟨r7,s7,e7,a7,b7,d7⟩:=vB (ρ:=[M!,aB!,bZ!,cs!,N!,p',q',a!]) (f:=n!) (g:=O! 12) (far:=12) L6.pot (by decide) (kA (by decide)) (by rfl) (by rfl);have L7:=L6.drawn hl d7;have oR:ky [M!,aB!,bZ!,cs!,N!,p',q',a!] s6=F! [M!,aB!,bZ!,cs!,N!,p',q',e! (1+r7)] s7:=by
  rw[ky,zO,yx,z00,Rb,e7];rfl
 have oS:∃s8 zs,qa [M!,aB!,bZ!,cs!,N!,p',q',e! (1+r7)] s7=F! [M!,aB!,bZ!,cs!,N!,p',q',e! (1+r7)] s8/\LS s l s8 zs/\(∀y∈zs,0<=y/\y<=fa!)/\zs.length=n:=by
  obtain⟨rt,st,et,_,_,dt⟩:=vB (ρ:=[M!,aB!,bZ!,cs!,N!,p',q',e! (1+r7)]) (f:=n!) (g:=O! 3) (far:=3) L7.pot (by decide) (kA (by decide)) (by rfl) (by rfl);have Lt:=L7.drawn hl dt;have t:tOf (go! (dW! zC (O! 3)) D!) [M!,aB!,bZ!,cs!,N!,p',q',e! (1+r7)] s7=.ok (ga! rt 0) st:=by rw[qM,yx,et];rfl
  by_cases z:rt=0
  ·obtain⟨ra,sa,ea,aa,ba,da⟩:=vB (ρ:=[M!,aB!,bZ!,cs!,N!,p',q',e! (1+r7)]) (f:=n!) (g:=o!) (far:=n) Lt.pot (by unfold Sz at bg;lia) (kA (by unfold Sz at bg;lia)) (by rfl) (by rfl);have La:=Lt.drawn hl da;obtain⟨rb,sb,eb,ab,bb,db⟩:=vB (ρ:=[M!,aB!,bZ!,cs!,N!,p',q',e! (1+r7)]) (f:=n!) (g:=o!) (far:=n) La.pot (by unfold Sz at bg;lia) (kA (by unfold Sz at bg;lia)) (by rfl) (by rfl);have Lb:=La.drawn hl db;have lX:ra.toNat<dr!:=by lia
   have ix:=zan (d:=d! (ys[ra.toNat])) La.at_ aa (by simp[lX]);have my:=x6 ys[ra.toNat] (_K lX);refine⟨_,_,?_,Lb.set hl (ys.set rb.toNat ys[ra.toNat]),zi5 x6 my,by simp[n6]⟩;rw[qa,z7r,t,Rb,_h (by simpa using z),z20];exact z5y (by
    rw[yx];simp only[yf,_c,_d,Rb];rw[ea,Rb];exact ix) (by rfl) eb Lb.at_ ab (by lia)
  ·refine⟨st,ys,?_,Lt,x6,n6⟩;rw[qa,z7r,t,Rb,_q (by simpa using z)];rfl
 obtain⟨s8,zs,oU,L8,x8,n8⟩:=oS;have lY:a4! zs:=λz=>by rw[z]at n8;simp at n8;unfold Sz at bg;lia
 have oV:∃s9 ws,uX [M!,aB!,bZ!,cs!,N!,p',q',e! (1+r7)] s8=F! [M!,aB!,bZ!,cs!,N!,p',q',e! (1+r7)] s9/\LS s l s9 ws/\(∀y∈ws,0<=y/\y<=fa!)/\ws.length=n/\∃x∈ws,0<x:=by
  have t:=zgK (f:=zd 4) (ρ:=[M!,aB!,bZ!,cs!,N!,p',q',e! (1+r7)]) lY L8.at_ (by rfl);by_cases z:jE! zs=0
  ·refine⟨_,_,?_,L8.set hl (zs.set (h! 0).toNat 1),zi5 x8 (by lia),by simp[n8],1,?_,by decide⟩
   ·rw[uX,z7r,t,Rb,_h (by simpa using z),z21];exact z5y (s1:=s8) (s2:=s8) (L:=s.length) (i:=0) (x:=1) (by rfl) (by rfl) (by rfl) L8.at_ (by decide) (by unfold Sz at bg;lia)
   ·exact List.mem_set (by unfold Sz at bg;lia) _
  ·refine⟨s8,zs,?_,L8,x8,n8,zfd lY (cO! (x8 y hy).1) z⟩;rw[uX,z7r,t,Rb,_q (by simpa using z)];rfl
 obtain⟨s9,ws,oW,L9,x9,n9,w9⟩:=oV;have hk:h! 0<1+r7:=by lia
 refine⟨n,scl (1+r7) ws,s9.take cf!,?_,⟨⟨bg,by rw[znB hk,n9],ap! ?_,?_⟩,ap! ?_⟩,L9.fin hl⟩
 ·simp only[z0W,z69,Mof,z6g,st,_j,_l,_x];rw[zn p1,zn p2,zn p3,zn p4,zn p5,zn p8,zn oR,zn oU,zn oW];have c:zv (zT (zd 4)) (au! 7) cc! zZ (hk! 1 n!) [M!,aB!,bZ!,cs!,N!,p',q',e! (1+r7)] s9=.ok (eF! (scl (1+r7) ws)) s9:=by
   rw[uw,uK,jq];simp only[yf,_c,_d,Rb,L9.at_];rw[zaZ (by
    intro p hp;simp at hp;subst hp;exact L9.at_) o4! (λy=>aJ! (y*(1+r7))) ws [] (by
    intro y hy;have mm:=z0I (a:=y) (b:=1+r7) s9 (x9 y hy).1 (_bm (x9 y hy).2 bB) (by lia) (kA (by lia));simp[mm]) (by unfold Sz at bg;simp[cap];lia)];simp[scl,_P]
  rw[z2A,yo,xh c,z8j];simp only[Rb];exact zdS
 ·obtain⟨y,hy,rfl⟩:=jY!;exact _be (x9 y hy).1 (by lia)
 ·obtain⟨y,hy,h0⟩:=w9;exact⟨y*(1+r7),(znG hk).mpr hy,Int.mul_pos h0 hk⟩
 ·obtain⟨y,hy,rfl⟩:=jY!;have b:=x9 y hy;have m1:y*(1+r7)<=fa!*(1+r7):=_ca b.2 (by lia);have:h! 2 ^ 104=20282409603651670423947251286016:=by decide
  lia
instance (A:Tb):Decidable (z08 A):=by unfold z08;infer_instance
noncomputable def okD:Nat->eH! D
 | _,.non=>true | _,.bl _=>true | _,.int _=>true | _,.str x=>PyData.strOk x | k+1,.tup xs=>nT! (okD k) | k+1,.lst xs=>nT! (okD k) | _,_=>false
theorem zsd: ∀(xs:List D),(∀x∈xs,lx! (z8V x)/\l5! (z8V x)<=2*k+3/\PyData.eqv (z8V x) (z8V x)=c!)->PyData.canLayAll0 oM!=c!/\PyData.depthAll oM!<=2*k+4/\PyData.eqvAll oM! oM!=c!
 | [],_=>⟨rfl,by simp[tPn,PyData.depthAll],by simp[tPn,PyData.eqvAll]⟩ | x::xs,h=>by
  have h1:=h x (by simp);have h2:=zsd xs (cO! (h y (by simp[hy])));refine⟨by simp[tPc,PyData.canLayAll0,h1.1,h2.1],?_,by simp[tPc,PyData.eqvAll,h1.2.2,h2.2.2]⟩;simp only[tPc,PyData.depthAll];lia
theorem zhh:∀(k:Nat)(d:D),okD k d=c!->lx! (z8V d)/\l5! (z8V d)<=2*k+3/\PyData.eqv (z8V d) (z8V d)=c!:=by
 intro k;induction k with
 | zero=>
  intro d h;cases d with
  | str x=>change PyData.strOk x=c! at h;change lx! bQ!/\l5! bQ!<=_/\PyData.eqv bQ! bQ!=c!;simp[PyData.canLay0,PyData.depth,PyData.eqv,h] | non=>change lx! X!/\l5! X!<=_/\PyData.eqv X! X!=c!;simp[PyData.canLay0,PyData.depth,PyData.eqv] | bl b=>change lx! kN!/\l5! kN!<=_/\PyData.eqv kN! kN!=c!;simp[PyData.canLay0,PyData.depth,PyData.eqv] | int i=>change lx! ac!/\l5! ac!<=_/\PyData.eqv ac! ac!=c!;simp[PyData.canLay0,PyData.depth,PyData.eqv] | _=>exact nomatch (h:t!=c!)
 | succ k ih=>
  intro d h;cases d with
  | str x=>change PyData.strOk x=c! at h;change lx! bQ!/\l5! bQ!<=_/\PyData.eqv bQ! bQ!=c!;simp[PyData.canLay0,PyData.depth,PyData.eqv,h] | non=>change lx! X!/\l5! X!<=_/\PyData.eqv X! X!=c!;simp[PyData.canLay0,PyData.depth,PyData.eqv] | bl b=>change lx! kN!/\l5! kN!<=_/\PyData.eqv kN! kN!=c!;simp[PyData.canLay0,PyData.depth,PyData.eqv] | int i=>change lx! ac!/\l5! ac!<=_/\PyData.eqv ac! ac!=c!;simp[PyData.canLay0,PyData.depth,PyData.eqv] | tup xs=>
   have h:=_S.mp h;have q:=zsd xs (ap! (ih x (h x hx)));refine⟨by simp only[zpE,PyData.canLay0,q.1],?_,by simp only[zpE,PyData.eqv,q.2.2]⟩;simp only[zpE,PyData.depth];lia | lst xs=>
   have h:=_S.mp h;have q:=zsd xs (ap! (ih x (h x hx)));refine⟨by simp only[zpA,PyData.canLay0,q.1],?_,by simp only[zpA,PyData.eqv,q.2.2]⟩;simp only[zpA,PyData.depth];lia | _=>exact nomatch (h:t!=c!)
theorem zdb(h:okD k d=c!)(hk:k<=10):zim d=c!:=by
 have q:=zhh k d h;simp only[zim,SeqAt.shaped,q.1];simp;lia
theorem eq_self(h:okD k d=c!)(hk:k<=10)(s:Sto):dEq d d s=bN!:=by
 have q:=zhh k d h;have o:=zdb h hk;rw[dEq,b7! o o];simp only[eqD,q.2.2]
theorem ne_self(h:okD k d=c!)(hk:k<=10)(s:Sto):dNe d d s=cS!:=by
 have o:=zdb h hk;rw[dNe,b7! o o];simp only[eqD,(zhh k d h).2.2];rfl
theorem ne_nil(h:okD k cD!=c!)(hk:k<=10)(s:Sto):dNe cD! (ab! []) s=aM! (!xs.isEmpty):=by
 have o:=zdb h hk;have o2:zim (ab! [])=c!:=zdb (k:=1) rfl (by decide);rw[dNe,b7! o o2];cases xs with
 | nil=>simp[eqD,zpA,zpE,tPn,tPc,PyData.eqv,PyData.eqvAll] | cons x xs=>simp[eqD,zpA,zpE,tPn,tPc,PyData.eqv,PyData.eqvAll]
end Pg
namespace Pn
open L2 Dd Pm Pg
noncomputable def isI:eH! D
 | .int _=>true | _=>false
def okI:eH! D
 | .int i=>jx! 0 i | _=>false
theorem zd8(h:h7! (tyD d))(s:Sto):z11 [d] s=aM! (isI d):=by cases d<;>first | rfl | cases h
theorem z0p(h:h7! (tyD d))(s:Sto):vf [d] s=aM! (isI d):=by cases d<;>first | rfl | cases h
def Kd:D->j!
 | .tup xs=>∀x∈xs,h7! (tyD x) | .scr _=>False | d=>h7! (tyD d)
theorem Kd.ty(h:Kd d):h7! (tyD d):=by cases d<;>first | rfl | exact h | exact bV! h
theorem all_ints:∀{xs:List D},rT!=c!->∃v:List Int,xs=br!
 | [],_=>ch! [] | x::xs,h=>by
  rw[_cc,_Q]at h;obtain⟨v,rfl⟩:=all_ints h.2;cases x with
  | int i=>exact ch! (i::v) | _=>simp[isI]at h
theorem zkE:∀{v w:List Int},br!=iL w->v=w
 | [],[],_=>rfl | [],_::_,h=>by cases h | _::_,[],h=>by cases h | a::v,b::w,h=>by
  simp only[iL,_p,_a7,D.int.injEq]at h;rw[h.1,zkE (v:=v) (w:=w) h.2]
theorem zi6(v:g!):(br!).all okI=v.all λx=>jx! 0 x:=by
 simp only[iL,List.all_map];rfl
theorem z9f{α:cd!}(l:eV!)(p:eH! α)(s:Sto):zft [ab! (n3! (λx=>D.bl (p x)))] s=aM! (l.all p):=by simp[zft,zV,(show n1! (n3! (λx=>D.bl (p x)))=b! (n3! p) from by
  rw[show (n3! (λx=>D.bl (p x)))=(n3! p).map D.bl by rw[_aj];rfl];exact zar _)]
theorem z2i(hk:∀x∈xs,h7! (tyD x)) (s:Sto) (h:dm! v!):yd [aD!,d! v!] s=aM! rT!:=by
 have st:zx [ko!,"many"] [aD!,d! v!]=[b! aD!,e! v!]:=rfl;simp only[yd,Mof,uT,st,_j,_l,_x];rw[zn (ρ':=[b! aD!,e! v!]) (s':=s) (by simp[zi4,yM,zV])];simp only[z1w,yo,yg,zy,zM,(comp_map (fi:=cF!) (mp:=[a!]) (fg:=yh 0) (fe:=bq! z11) (ρ:=[b! aD!,e! v!]) (s:=s) (λx=>x) (λx=>D.bl (isI x)) (λx=>[dR!]) xs (by simp) (λa _=>by rfl) (λa ha=>by simp[zd8 (hk a ha)]) (by simp[cap];lia)),Rb,z9f]
theorem z3G(s:Sto):∀(xs all:List D)(z:Option D),(∀x∈xs,h7! (tyD x))-> aG! (nT! okI) (∃z',yL [] all (d5! (yh 1 d ρ s) (xr ρ' s')) xs [t,z] s=a6! [t,z']) (yL [] all (d5! (yh 1 d ρ s) (xr ρ' s')) xs [t,z] s=k! (.rt dg!))
 | [],all,z,_=>by simp[yL,okG] | x::xs,all,z,hk=>by
  have step:xr [t,dR!] s=aG! (okI x) (a6! [t,dR!]) (k! (.rt dg!)):=by
   have w:=z0p (hk x (by simp)) s;have no:isI x=t!->xr [t,dR!] s=k! (.rt dg!):=λh=>by simp[w,h]
   cases x with
   | int i=>
    by_cases h0:0<=i;·simp[w,isI,okI,h0,(by omega)]
    ·simp[w,isI,okI,h0,(by omega)] | _=>rw[no rfl];rfl
  simp only[yL,_h (show okG [] all s from by intro p hp;cases hp),ve,Rb,_F,_C,step];cases h:okI x with
  | true=>
   simp only[_x,Rb,_cc,h,Bool.true_and];exact (z3G (t:=t) s xs all dR! (cO! (hk y (by simp[hy])))) | false=>simp[h]
theorem zmy{xs:C!}(h:nT! okI=c!):rT!=c!:=by
 rw[_S]at h ⊢;intro x hx;have:=h x hx;cases x<;>simp_all[okI,isI]
theorem zmK(h:gIs dd! d s=cS!):yt [d] s=cS!/\yA [d] s=cS!:=by
 constructor;·simp[yt,Mof,qk,yS,qB,zx,h]
 ·simp[yA,Mof,ud,zx,h]
theorem zj1(hd:Kd d)(s:Sto):(∃n v,d=aw!/\a2!/\yt [d] s=bN!/\yA [d] s=bN!)\/(yt [d] s=cS!/\yA [d] s=cS!):=by cases d with
 | tup xs=>
  have hk:∀x∈xs,h7! (tyD x):=hd;by_cases hs:2<=v!/\v!<=4
  ·have h1:=z3k xs s hs;have h2:=z2i hk s (by lia);have gl:yM [aD!] s=u! v!:=by rfl
   have lf:z0D (au! aD!) s=a6! (au! aD!):=by
    have:zc9 c! (d! (h! v!)) (p! [d! 2,d! 3,d! 4]) s=cS!:=by
     have hc:v!=2\/v!=3\/v!=4:=by lia
     rcases hc with hc | hc | hc<;>rw[hc]<;>rfl
    simp[gIs,tyD,isT,gl,this,cap]
   have lp:=z3G (t:=b! aD!) s xs xs none hk;have st:zx [ja!,cP!] [aD!]=au! aD!:=rfl;have lw:yA [aD!] s=(match zA wg vz (au! aD!) s with | .ok (.rt d) s'=>bR! d | .ok (.nx _) s'=>bR! at! | _=>.no):=by
    simp only[yA,Mof,ud,st,_j,_l,_x];rw[zn lf]<;>(generalize zA wg vz (au! aD!) s=r;cases r with
     | ok fl _=>cases fl<;>rfl | _=>rfl)
   have q3:wg (au! aD!) s=yL [] xs (d5! (yh 1 d ρ s) (xr ρ' s')) xs (au! aD!) s:=by
    rw[wg,qJ];rfl
   have pg:∀b,(∀v:List Int,xs=br!->(jx! 0 (jF! v)&&dO! 0 ie!)=b)->(rT!=t!->b=t!)->yt [aD!] s=aM! b:=λb hb lZ=>by cases hi:rT! with
    | false=>
     rw[hi]at h2;rw[lZ hi];have key:∀d:D,yS [d] s=bN!->yM [d] s=u! v!->yd [d,d! v!] s=cS!->yt [d] s=cS!:=λd a1 a2 a3=>by simp[yt,Mof,qk,zx,a1,a2,a3]
     exact key _ h1 gl h2 | true=>
     rw[hi]at h2;obtain⟨v,rfl⟩:=all_ints hi;have ne:a4! v:=by rintro rfl;exact cN! hs (by decide)
     have g1:=z8a s ne;have g2:=zkU s ne;have hb:=hb v rfl;have key:∀d:D,yS [d] s=bN!->yM [d] s=u! (r! br!)->yd [d,d! (r! br!)] s=bN!->vH [d] s=u! ie!->z7g [d] s=u! (jF! v)->yt [d] s=aM! b:=λd a1 a2 a3 a4 a5=>by
      rw[<- hb];by_cases z:0<=jF! v;·simp[yt,Mof,qk,zx,a1,a2,a3,a4,a5,z,-List.length_map]
      ·simp[yt,Mof,qk,zx,a1,a2,a3,a4,a5,z,-List.length_map]
     exact key _ h1 gl h2 g1 g2
   cases ho:nT! okI with
   | false=>
    right;rw[ho,_q (by decide)]at lp;refine⟨pg t! (lc! ?_) (λ_=>rfl),?_⟩
    ·subst hv;rw[zi6]at ho;rw[Bool.and_eq_false_iff];left;rw[decide_eq_false_iff_not];intro z;have:v.all (λx=>jx! 0 x)=c!:=by
      rw[_S];intro x hx;have:=minL_le (xs:=v) x hx;exact decide_eq_true (by lia)
     rw[this]at ho;cases ho
    ·rw[lw,ze9 (by rw[q3];exact lp)] | true=>
    rw[ho,gC!]at lp;obtain⟨z',lp⟩:=lp;obtain⟨v,rfl⟩:=all_ints (zmy ho);have ne:a4! v:=by rintro rfl;exact cN! hs (by decide)
    rw[zi6,_S]at ho;have nn:∀x∈v,0<=x:=ap! (_c3 (ho x hx));have g1:=z8a s ne;have l5:yA [p! br!] s=aM! (dO! 0 ie!):=by
     rw[lw,zn (by rw[q3];exact lp)];have key:∀d:D,vH [d] s=u! ie!->vz [i!,z'] s=k! (.rt (.bl (dO! 0 ie!))):=λd a=>by simp[a]
     rw[key _ g1]
    by_cases mx:0<ie!
    ·left;have hv:Lot J! v:=by refine⟨?_,?_,nn,⟨ie!,kn! ne,mx⟩⟩<;>first | rfl | (simp at hs;lia) | skip
     refine⟨J!,v,rfl,hv,zdU hv s,?_⟩;rw[l5,decide_eq_true mx]
    ·right;refine⟨pg t! (λw hw=>?_) (λ_=>rfl),?_⟩
     ·have:v=w:=zkE hw;subst this;rw[_aN mx,Bool.and_false]
     ·rw[l5,_aN mx]
  ·right;constructor
   ·have key:∀d:D,yS [d] s=cS!->yt [d] s=cS!:=λd a1=>by simp[yt,Mof,qk,zx,a1]
    exact key _ (by
     by_cases a:h! 2<=v!
     ·have:¬ h! v!<=4:=by lia
      simp[yS,Mof,qB,zx,zi4,yM,zV,a,this]
     ·simp[yS,Mof,qB,zx,zi4,yM,zV,a])
   ·have gl:yM [aD!] s=u! v!:=by rfl
    have q:zc9 c! (d! (h! v!)) (p! [d! 2,d! 3,d! 4]) s=bN!:=by
     have h2:v!≠2:=by lia
     have h3:v!≠3:=by lia
     have h4:v!≠4:=by lia
     generalize xs.length=m at h2 h3 h4;have g2:¬ h! 2=m:=by lia
     have g3:¬ h! 3=m:=by lia
     have g4:¬ h! 4=m:=by lia
     have e:inV (d! (h! m)) [d! 2,d! 3,d! 4]=t!:=by simp[inV,eqV,g2,g3,g4]
     simp[zc9,zaN,zV,z1E,e]
    simp[yA,Mof,ud,zx,gIs,tyD,isT,gl,q,cap] | scr _=>exact hd.elim | _=>
  right;have hd:=hd.ty;first
  | (exfalso;simp[tyD]at hd;done) | exact zmK rfl
theorem z1F:LeM xo xQ:=LeM.mof (sj! LeS.rfl)
theorem zhM:LeM z5a z5i:=ra! (rH! z1F) (qZ! (qZ! qP!))
theorem z2s(h:yt [d] s=cS!):xQ [d] s=.ex gR! s:=by
 have st:zx c3! [d]=[i!]:=rfl;simp[xQ,kT,z3H,st,h]
theorem z7B(h:a2!)(s:Sto):xQ gn! s=eT!:=z1F.ok (z0V h s)
theorem zh1(h:aK!=.ex c s'):zA f g ρ s=.ex c s':=by rw[zko,h,R.bind_ex]
theorem zcJ(h:aK!=.ex c s'):wk f ρ s=.ex c s':=by rw[z0G,h,R.bind_ex]
theorem zmM(k:Nat)(b:Bool)(s:Sto):zU (k+1) [ho!,ho!] s=bN!:=by
 have d1:dIs ho! at! s=cS!:=rfl;simp[zU,Mof,uF,zx,zo0,znX,gIs,tyD,isT,d1]
theorem same_int(k:Nat)(i:Int)(s:Sto):zU (k+1) [ac!,ac!] s=bN!:=by
 have d1:dIs ac! at! s=cS!:=rfl;simp[zU,Mof,uF,zx,zo0,znX,gIs,tyD,isT,d1,(z0p (d:=ac!) rfl s),isI]
theorem same_str(k:Nat) (hx:PyData.strOk x=c!) (s:Sto):zU (k+1) [bQ!,bQ!] s=bN!:=by
 have d1:dIs bQ! at! s=cS!:=rfl;simp[zU,Mof,uF,zx,zo0,znX,gIs,tyD,isT,d1,(eq_self (k:=0) (d:=bQ!) hx (by decide) s)]
def uE:Nat->D->j!
 | _,.bl _=>True | _,.int _=>True | _,.str x=>PyData.strOk x=c! | k+1,.tup xs=>j8!/\∀x∈xs,uE k x | k+1,.lst xs=>j8!/\∀x∈xs,uE k x | _,_=>False
theorem zah:∀xs:List D,z3S xs xs=nG! (λx=>gv! [x,x])
 | []=>rfl | x::xs=>by rw[z3S,zah xs];rfl
theorem zdR(hl:j8!) (h:∀x∈xs,zU k [x,x] s=bN!) (d:D) (hd:d=aD!\/d=cD!):zU (k+1) [d,d] s=bN!:=by
 have st:zx [hy!,oc!] [d,d]=[i!,i!]:=rfl;have g:z8c s d=b! (xs,[]):=by rcases hd with rfl | rfl<;>rfl
 have ga:=z9f xs (λ_=>c!) s;have ga:zft [ab! (nG! (λ_=>D.bl c!))] s=bN!:=by rw[ga];simp
 have gl:yM [d] s=u! v!:=by rcases hd with rfl | rfl<;>rfl
 have q2:z2J (zU k) [i!,i!] s=a6! [i!,i!]:=by rcases hd with rfl | rfl<;>rfl
 simp only[zU,Mof,uF,st,_j,_l,_x];rw[ze9 (by
  rw[z1U,z7r];have t:tOf (znX d0! dd! o!) [i!,i!] s=k! c!:=by rcases hd with rfl | rfl<;>rfl
  rw[t,Rb,gC!,zn q2,(show ke (zU k) [i!,i!] s=k! (.rt eA!) from by simp only[ke,yo,z8s,yx,yg,zy,zM,(comp_map (fi:=z4P (cg! n! 1)) (mp:=iH!) (fg:=yN 0 1) (fe:=cM! (zU k)) (ρ:=[i!,i!]) (s:=s) (λx=>gv! [x,x]) (λx=>D.bl c!) (λx=>[dR!,dR!]) xs (by simp[g,zah]) (λa _=>by rfl) (λa ha=>by simp[h a ha]) hl),Rb,ga,yf,_c,_d,gl,zcA,_c2])])]
theorem z6b:∀(k:Nat)(d:D)(s:Sto),uE k d->zU (k+1) [d,d] s=bN!
 | k,.bl b,s,_=>zmM k b s | k,.int i,s,_=>same_int k i s | k,.str x,s,h=>same_str k (by unfold uE at h;exact h) s | k+1,.tup xs,s,h=>zdR h.1 (ap! (z6b k x s (h.2 x hx))) _ cT! | k+1,.lst xs,s,h=>zdR h.1 (ap! (z6b k x s (h.2 x hx))) _ (R! rfl) | 0,.tup xs,s,h=>by cases h | 0,.lst xs,s,h=>by cases h | k,.non,s,h=>by simp[uE]at h | k,.dct,s,h=>by simp[uE]at h | k,.loc _,s,h=>by simp[uE]at h | k,.dlo _,s,h=>by simp[uE]at h | k,.fn _,s,h=>by simp[uE]at h | k,.exc _,s,h=>by simp[uE]at h | k,.scr _,s,h=>by simp[uE]at h
theorem uE.up:∀{k:Nat}{d:D},uE k d->uE (k+1) d
 | _,.bl _,_=>by simp[uE] | _,.int _,_=>by simp[uE] | _,.str x,h=>by unfold uE at h ⊢;exact h | 0,.tup xs,h=>by cases h | 0,.lst xs,h=>by cases h | k+1,.tup xs,h=>⟨h.1,ap! (h.2 x hx).up⟩ | k+1,.lst xs,h=>⟨h.1,ap! (h.2 x hx).up⟩ | k,.non,h=>by simp[uE]at h | k,.dct,h=>by simp[uE]at h | k,.loc _,h=>by simp[uE]at h | k,.dlo _,h=>by simp[uE]at h | k,.fn _,h=>by simp[uE]at h | k,.exc _,h=>by simp[uE]at h | k,.scr _,h=>by simp[uE]at h
theorem zks{k:Nat} (s:Sto)(h:uE 3 d):km [d,d] s=bN!:=z6b 4 d s h.up
theorem zaB(s:Sto)(x y:fg!):∀(k:Nat)(a b:Int),0<=a->0<=b->o5!<k-> wT (d7! 3 D!) z0K k [x,e! a,y,a7!] s=a6! [x,e! (cg a b),y,e! 0]
 | 0,a,b,_,_,h=>by lia | k+1,a,b,ha,hb,h=>by
  rw[wT];by_cases e:b=0
  ·subst e;simp[zhr ha]
  ·have b0:0<b:=by lia
   have h2:=_bl a b0;have e1:tOf (eOp dNe ba! D!) [x,e! a,y,a7!] s=k! c!:=by simp[e]
   rw[e1,Rb,(show z0K [x,e! a,y,a7!] s=a6! [x,a7!,y,e! (a % b)] from by simp[(z5X (a:=a) s b0)])];show wT _ _ k _ s=_;rw[(zaB s x y k b (a % b) hb (_a8 a (show b≠0 by lia)) (by lia)),zgL b0]
theorem z8b(s:Sto)(x:fg!):∀(v:List Int)(a:Int)(all:List D)(z z2:Option D),0<=a->(∀x∈v,0<=x)->∃z' fR,yL [] all (d5! (yh 2 d ρ s) (zA z0n z0a ρ' s')) br! [x,e! a,z,z2] s=a6! [x,e! (oF! a),z',fR]
 | [],a,all,z,z2,_,_=>⟨z,z2,by simp[yL,okG]⟩ | b::v,a,all,z,z2,ha,hv=>by
  obtain⟨z',fR,ih⟩:=z8b s x v (cg a b) all a7! (e! 0) (by simp[cg]) λw hw=>hv w (by simp[hw]);refine aQ! z' fR ?_;simp only[iL,_p,yL];rw[_h (by intro p hp;cases hp)];have e2:z0a [x,e! a,a7!,a7!] s=a6! [x,e! (cg a b),a7!,e! 0]:=by exact z2t (zaB s x a7! (o5!+1) a b ha (hv b (by simp)) (by lia)) (by simp)
  rw[ve,Rb];simp only[_F,_C];rw[zn (show z0n [x,e! a,a7!,z2] s=a6! [x,e! a,a7!,a7!] from by rfl),e2];exact ih
theorem zoQ(h:a2!) (s:Sto):qd gn! s=u! fM!:=by
 have st:zx [kq!,hy!,cP!,dK!] gn!=[ag!,a!,a!,a!]:=rfl;obtain⟨z',fR,lp⟩:=z8b s ag! v 0 br! a! a! (by lia) fw!;simp only[qd,Mof,z6n,st,_j,_l,_x];rw[zn (ρ':=fh! aw! dp! a!) (s':=s) (by rfl),zn (ρ':=[ag!,e! (oF! 0),z',fR]) (s':=s) (by exact lp)];rfl
structure Bn(m:Nat)(d:D):j! where
 kd:Kd d
 bd:∀xs i,d=aD!->aJ! i∈xs->gV!<2 ^ m
theorem Bn.tup{m:Nat}{xs:C!}(h:∀x∈xs,h7! (tyD x)/\∀i,x=ac!->gV!<2 ^ m):Bn m aD!:= ⟨ap! (h x hx).1,λys i e hi=>by cases e;exact (h _ hi).2 i rfl⟩
theorem Bn.row(h:∀x∈v,dc! m):Bn m aw!:=oA! (by
 obtain⟨y,hy,rfl⟩:=jY!;exact f5! (λi e=>by cases e;exact h _ hy))
theorem Bn.other(h:Kd d)(hn:∀xs,d≠aD!):Bn m d:=⟨h,λxs i e _=>cN! e (hn xs)⟩
noncomputable def zjQ:C!:=[at!,eA!,dg!,d! (-1),dp!,d! 7,d! fa!,ax! "",ax! "1:0",p! [],p! [dp!,dp!],p! [d! 1],ab! (bO! 1 0),.dct,p! [p! (bO! 1 0),p! (bO! 0 1)],p! [eA!,d! 2]]
theorem zq0(h:Pot s l):∃d s',vO [ea!] s=bR! d/\d∈zjQ/\qQ s s' l:=by
 have st:zx [e9!,iz!] [ea!]=[M!,a!]:=rfl;have q1:z3T [M!,a!] s=a6! [M!,L! [at!,eA!,dg!,d! (-1),dp!,d! 7,d! fa!,ax! "",ax! "1:0",p! [],p! [dp!,dp!],p! [d! 1],ab! (bO! 1 0),.dct]]:=by rfl
 obtain⟨r,s',e,a,b,dr⟩:=vB (f:=n!) (g:=O! 16) (far:=16) (ρ:=[M!,L! [at!,eA!,dg!,d! (-1),dp!,d! 7,d! fa!,ax! "",ax! "1:0",p! [],p! [dp!,dp!],p! [d! 1],ab! (bO! 1 0),.dct]]) h (by decide) (kA (by decide)) (by rfl) (by rfl);have hr:r.toNat<zjQ.length:=by simp[zjQ];lia
 have ix:=wZ (xs:=zjQ) (d:=zjQ[r.toNat]) (s:=s') a (by simp[hr]);refine⟨zjQ[r.toNat],s',?_,_K hr,dr⟩;simp only[vO,Mof,z6V,st,_j,_l,_x];rw[zn q1,z3z,yo,yx];have c:eOp xj o! (kY (aO! (cw! (cw! ak! D!) (cw! D! ak!)) (cw! (eC eA!) (O! 2)))) [M!,L! [at!,eA!,dg!,d! (-1),dp!,d! 7,d! fa!,ax! "",ax! "1:0",p! [],p! [dp!,dp!],p! [d! 1],ab! (bO! 1 0),.dct]] s=bw! zjQ:=by rfl
 rw[c,Rb,e,Rb,ix,Rb]
theorem zlE(h:d∈zjQ)(hm:2<=m):Bn m d:=by
 have h2:2 ^ 2<=2 ^ m:=_B (by decide) hm;simp only[zjQ,_w,_aI,_ch]at h;rcases h with rfl | rfl | rfl | rfl | rfl | rfl | rfl | rfl | rfl | rfl | rfl | rfl | rfl | rfl | rfl | rfl;case inr.inr.inr.inr.inr.inr.inr.inr.inr.inl=>exact rt! (by simp)
 case inr.inr.inr.inr.inr.inr.inr.inr.inr.inr.inl=>exact rt! (by simp[tyD];lia)
 case inr.inr.inr.inr.inr.inr.inr.inr.inr.inr.inr.inl=>exact rt! (by simp[tyD];lia)
 case inr.inr.inr.inr.inr.inr.inr.inr.inr.inr.inr.inr.inr.inr.inl=>exact rt! (by simp[tyD])
 case inr.inr.inr.inr.inr.inr.inr.inr.inr.inr.inr.inr.inr.inr.inr=>exact rt! (by simp[tyD];lia)
 all_goals exact Bn.other rfl (by intro xs e;cases e)
theorem znu{v:g!} {k:Nat} (hk:k<J!) (s:Sto):∃y∈v,cU! aw! (h! k-1) s=u! y:=by cases k with
 | zero=>
  simp only[dIx,zV,atI,(show ixN (r! br!) (dM! 0-1)=b! (J!-1) from by
   unfold ixN;simp;lia),_L];simp[(show J!-1<J! from by lia)] | succ k=>
  have hl:k<J!:=by lia
  refine⟨v[k],_K hl,?_⟩;rw[show (Z! (k+1)-1)=k by lia];exact (z87 (xs:=br!) (j:=k) (d:=d! (v[k])) s (by simp[hl]))
theorem zi3(h:Pot s l) (hv:∀x∈v,dc! m) (hm:104<=m) (h1:1<=J!) (h4:J!<=4):∃d s',xf [ea!,aw!] s=bR! d/\Bn (m+1) d/\qQ s s' l:=by
 have st:zx [e9!,pg!,ev!,"_law_odd_here",iz!] [ea!,aw!]=kO! M! ag! a!:=rfl;have gl:∀s,yM gn! s=u! J!:=λs=>by simp[yM,zV]
 obtain⟨r1,s1,e1,a1,b1,d1⟩:=vB (f:=n!) (g:=hg! 1) (far:=v.length) (ρ:=kO! M! ag! a!) h (by lia) (kA (by lia)) (by rfl) (by simp only[yg,zy,zM,yf,_d,_c,Rb,gl]);obtain⟨k,rfl⟩:∃k:Nat,r1=k:=⟨r1.toNat,by lia⟩;have hk:k<J!:=by lia
 have q1:kw (kO! M! ag! a!) s=hl! (kO! M! ag! bU!):=by rw[kw,zO,e1];rfl
 have oX:∀s,cU! aw! k s=u! (v[k]):=λs=>z87 (xs:=br!) (j:=k) (d:=d! (v[k])) s (by simp[hk]);obtain⟨y,hy,oY⟩:=znu hk s1;have bp:∀{i:Int},gV!<2 ^ m->gV!+1<2 ^ (m+1):=λ{i} hi=>by
  have:2 ^ (m+1)=2 ^ m*2:=_dE ..;have:0<2 ^ m:=Nat.pow_pos (by decide);lia
 have hx:=bp (hv _ (_K hk));let L10:C!:=[d! (v[k]+1),d! (v[k]-1),d! (0-v[k]),dp!,eA!,at!,ax! "1",p! [d! 1],d! fa!,d! y];have hL:∀e∈L10,h7! (tyD e)/\∀i,e=ac!->gV!<2 ^ (m+1):=by
  have iP:bA! (h! fa!)<2 ^ (m+1):=_i (by decide:bA! (h! fa!)<2 ^ 105) (_B (by decide) (by lia));have rh:=bp (hv _ hy);intro e he;simp only[L10,_w,_aI,_ch]at he;rcases he with rfl | rfl | rfl | rfl | rfl | rfl | rfl | rfl | rfl | rfl;all_goals refine f5! (e8! ?_)
  all_goals first | cases hi | skip
  all_goals first | exact iP | lia
 have q2:kF (kO! M! ag! bU!) s1=hl! [M!,ag!,bU!,L! L10,a!]:=by
  have key:∀d:D,cU! d k s1=T! (d! (v[k]))->cU! d (h! k-1) s1=T! (d! y)->kF (kO! M! i! bU!) s1=hl! [M!,i!,bU!,L! L10,a!]:=λd c1 c2=>by simp[c1,c2,zot,cap,L10]
  exact key _ (oX s1) oY
 obtain⟨r2,s2,e2,a2,b2,d2⟩:=vB (f:=n!) (g:=O! 10) (far:=10) (ρ:=[M!,ag!,bU!,L! L10,a!]) d1.pot (by decide) (kA (by decide)) (by rfl) (by rfl);have l6:r2.toNat<L10.length:=by simp[L10];lia
 have l7:=wZ (xs:=L10) (d:=L10[r2.toNat]) (s:=s2) a2 (by simp[l6]);have he:=hL _ (_K l6);generalize L10[r2.toNat]=e at l7 he;have q3:jW [M!,ag!,bU!,L! L10,a!] s1=F! [M!,ag!,bU!,A!,a!] s2:=by
  rw[jW,zO,yx];simp only[yf,_d,_c,Rb];rw[e2,Rb,l7];rfl
 have sk:∀s,dSl aw! a! (b! (h! k)) s=bf! ((br!).take k):=λs=>z2T _ _ _;have sd:∀s,dSl aw! (b! (h! k)) a! s=bf! ((br!).drop k):=λs=>z1H _ _ _;have l8:∀s,dSl aw! (b! (h! k+1)) a! s=bf! ((br!).drop (k+1)):=λs=>z1H br! (k+1) s;have lv:r! br!=J!:=by simp
 generalize hT:(br!).take k=T at sk;generalize hU:(br!).drop k=U at sd;generalize hW:(br!).drop (k+1)=W at l8;have lT:aY!<=4:=by rw[<- hT,_b5];lia
 have lU:U.length<=4:=by rw[<- hU,_aO];lia
 have lW:W.length<=4:=by rw[<- hW,_aO];lia
 have bJ:∀x∈br!,h7! (tyD x)/\∀i,x=ac!->gV!<2 ^ (m+1):=ap! (by
  obtain⟨z,hz,rfl⟩:=jY!;refine f5! (λi q=>?_);cases q;have:=bp (hv _ hz);lia)
 have iT:∀x∈T,x∈br!:=ap! (_R (hT ▸ hx));have iU:∀x∈U,x∈br!:=ap! (_az (hU ▸ hx));have iW:∀x∈W,x∈br!:=ap! (_az (hW ▸ hx));obtain⟨o,s3,e3,ho,d3⟩:=zq0 (l:=l) (d1.trans d2).pot;let df:C!:=[p! (T++[e]++W),p! (T++[e]++W),p! (T++W),eF! v,p! (T++[dp!]++U),p! (br!).reverse,p! (br!++br!),p! (ls! dp!),o,p! gn!];have q5:uZ [M!,ag!,bU!,A!,L! [p! (T++[e]++W),p! (T++[e]++W),p! (T++W),eF! v]] s2=F! [M!,ag!,bU!,A!,L! df] s3:=by
  have c1:aY!+1<=cap:=by simp[cap];lia
  have c2:aY!+1+U.length<=cap:=by simp[cap];lia
  have c4:dM! 1<=cap:=by decide
  have c5:dM! 6<=cap:=by decide
  have c6:dM! 10<=cap:=by decide
  have ad:xj aw! aw! s2=b2! (p! (br!++br!)):=by rw[z3N,_h (by simp[cap];lia)]
  have rv:zpM o! [M!,ag!,bU!,A!,L! [p! (T++[e]++W),p! (T++[e]++W),p! (T++W),eF! v]] s2=b2! (p! (br!).reverse):=by rfl
  have key:∀(d g rv aa rr x4:D) (z:List D),pa!=4->x4=ab! z->dSl d a! (b! (h! k)) s2=b2! (p! T)->dSl d (b! (h! k)) a! s2=b2! (p! U)->yM [d] s2=b2! (d! J!)->xj d d s2=b2! aa->zg8 (p! [dp!]) (d! J!) s2=b2! rr-> zpM o! [M!,i!,bU!,A!,b! x4] s2=b2! rv->uZ [M!,i!,bU!,A!,b! x4] s2=F! [M!,i!,bU!,A!,L! (z++[p! (T++[dp!]++U),rv,aa,rr,o,p! [d]])] s3:=λd g rv aa rr x4 z hz oZ x1 x2 x3 x5 x6 x7=>by
   subst oZ;rw[uZ,zO,yx];simp only[z6p,zy,zM,x7,yx,zbH,qE,z1D,yf,z1V,z00,yg,_d,_c,Rb,x1,x2,x3,x5,x6,e3,z3N,_aZ,_j,_l,_ap,_h c1,_h c2,_h c4,_h c5,zdC,hz,Nat.reduceAdd,_h c6,_F,_C]
  exact key _ (ab! []) _ _ _ _ _ rfl rfl (sk s2) (sd s2) (gl s2) ad (by
   rw[zm5,_h ⟨by lia,by decide,by simp[cap];lia⟩];congr 2;rw[_T];generalize v.length=n;induction n with
   | zero=>rfl | succ n ih=>rw[_aM,_bt,ih];rfl) rv
 obtain⟨r4,s4,e4,a4,b4,d4⟩:=vB (f:=n!) (g:=O! 10) (far:=10) (ρ:=[M!,ag!,bU!,A!,L! df]) d3.pot (by decide) (kA (by decide)) (by rfl) (by rfl);have l9:r4.toNat<df.length:=by simp[df];lia
 have o0:=wZ (xs:=df) (d:=df[r4.toNat]) (s:=s4) a4 (by simp[l9]);have hM:∀d∈df,Bn (m+1) d:=by
  have fS:Bn (m+1) (p! (T++[e]++W)):=oA! (by
   simp only[_M,_w,_aI,_ch]at hx;rcases hx with (hx | rfl) | hx;·exact bJ x (iT x hx)
   ·exact he
   ·exact bJ x (iW x hx))
  intro d hd;simp only[df,_w,_aI,_ch]at hd;rcases hd with rfl | rfl | rfl | rfl | rfl | rfl | rfl | rfl | rfl | rfl;·exact fS
  ·exact fS
  ·refine oA! ?_;rcases mX! hx with hx | hx;·exact bJ x (iT x hx)
   ·exact bJ x (iW x hx)
  ·exact Bn.other rfl (by intro xs q;cases q)
  ·refine oA! ?_;simp only[_M,_w,_aI,_ch]at hx;rcases hx with (hx | rfl) | hx;·exact bJ x (iT x hx)
   ·exact f5! (λi q=>by cases q;exact Nat.pow_pos (by decide))
   ·exact bJ x (iU x hx)
  ·exact oA! (bJ x (List.mem_reverse.mp hx))
  ·exact oA! (mx! hx (bJ x) (bJ x))
  ·refine oA! ?_;rw[(List.mem_replicate.mp hx).2];exact f5! (λi q=>by cases q;exact Nat.pow_pos (by decide))
  ·exact zlE ho (by lia)
  ·refine oA! ?_;simp only[_w,_aI,_ch]at hx;subst hx;exact f5! (λi q=>by cases q)
 refine⟨df[r4.toNat],s4,?_,hM _ (_K l9),bL! (bL! (d1.trans d2) d3) d4⟩;simp only[xf,Mof,z40,st,_j,_l,_x];rw[zn q1,zn q2,zn q3,zn (by
  have g:z6W gn! s2=b2! (eF! v):=by rfl
  have c1:aY!+1<=cap:=by simp[cap];lia
  have c2:aY!+1+W.length<=cap:=by simp[cap];lia
  have c3:aY!+W.length<=cap:=by simp[cap];lia
  have c4:dM! 1<=cap:=by decide
  have c5:dM! 4<=cap:=by decide
  have key:∀(d g:D),dSl d a! (b! (h! k)) s2=b2! (p! T)->dSl d (b! (h! k+1)) a! s2=b2! (p! W)->z6W [d] s2=b2! g->z1W [M!,i!,bU!,A!,a!] s2=F! [M!,i!,bU!,A!,L! [p! (T++[e]++W),p! (T++[e]++W),p! (T++W),g]] s2:=λd g x1 x2 x3=>by simp[x1,x2,x3,c1,c2,c3,c4,c5]
  exact key _ _ (sk s2) (l8 s2) g),zn q5,z25,yo,yx];simp only[yf,_d,_c,Rb];rw[e4,Rb,o0,Rb]
end Pn
namespace Pm
theorem ziR(h:Lot n z)(he:nb! z=c!):∃k,k<n/\jr! k=z2M z/\0<z2M z/\∀j,j≠k->jr! j=0:=by
 have l1:g9! z=1:=by simpa[ended] using he
 obtain⟨x,hx,x0⟩:=h.pos;obtain⟨k,hk,e⟩:=oN!;have gk:jr! k=x:=by simp[_b hk,e]
 have oth:∀j,j≠k->jr! j=0:=by
  intro j hj;apply _X;intro hz;have ma:∀(v:List Int)(a b:Nat),a<b->bp! a≠0->fm!≠0->2<=g9! v:=by
   intro v;induction v with
   | nil=>intro a b _ h1;simp at h1 | cons y v ih=>
    intro a b md h1 h2;cases b with
    | zero=>lia | succ b=>
     have hb:fm!≠0:=by exact h2
     cases a with
     | zero=>
      have:1<=g9! v:=_bG.mpr λq=>by
       have:=qJ! ⟨gZ! (by
       apply _X;intro q;exact hb (by simp[_J (qI! q)])),hb⟩;rw[q]at this;cases this
      simp only[nz,_aC,(by simpa using h1),ne_eq,not_false_eq_true,_c2,_x,_j]at this ⊢;lia | succ a=>
      have:=ih a b (by lia) (by exact h1) hb;simp only[nz,_aC]at this ⊢;split;·simp only[_j];lia
      ·exact this
  rcases Nat.lt_or_gt_of_ne hj with q | q;·have:=ma z j k q hz (by lia);lia
  ·have:=ma z k j q (by lia) hz;lia
 have fT:z.sum=x:=by
  have:∀(v:List Int)(k:Nat),k<J!->(∀j,j≠k->bp! j=0)->v.sum=bp! k:=by
   intro v;induction v with
   | nil=>intro k hk;cases hk | cons y v ih=>
    intro k hk ho;cases k with
    | zero=>
     have:∀w:List Int,(∀j,w.getD j 0=0)->w.sum=0:=by
      intro w;induction w with
      | nil=>intro _;rfl | cons u w ihw=>
       intro hw;rw[_aA,(show u=0 from by exact hw 0),ihw λj=>by exact hw (j+1)];rfl
     rw[_aA,this v λj=>by exact ho (j+1) (by lia)];simp | succ k=>
     rw[_aA,ih k (by simpa using hk) λj hj=>by exact ho (j+1) (by lia),(show y=0 from by exact ho 0 (by lia))];simp
  rw[this z k hk oth,gk]
 rw[(zhS h he)]at fT;exact⟨k,by rw[<- h.len];exact hk,by rw[gk,fT],by lia,oth⟩
theorem z8f:∀{r z:List Int}{k:Nat},aE!=pa!->(∀j,j≠k->jr! j=0)->eM! z=cC! k*jr! k
 | [],[],k,_,_=>by rfl | a::r,b::z,k,hl,h=>by cases k with
  | zero=>
   rw[dot_cons,(show ∀(r z:List Int),(∀j,jr! j=0)->eM! z=0 from by
    intro r;induction r with
    | nil=>cases z<;>simp[dot] | cons u r ih=>
     intro z hz;cases z with
     | nil=>rfl | cons y z=> rw[dot_cons,(show y=0 from by exact hz 0),ih z λj=>by exact hz (j+1)];simp) r z λj=>by exact h (j+1) (by lia)];simp | succ k=>
   rw[dot_cons,z8f (k:=k) (by simpa using hl) λj hj=>by exact h (j+1) (by lia),(show b=0 from by exact h 0 (by lia))];simp
 | [],_::_,_,h,_=>by cases h | _::_,[],_,h,_=>by cases h
theorem z9m(g:Int):∀(v w:List Int),dot v (w.map λx=>x*g)=dot v w*g
 | [],_=>by simp[dot] | _::_,[]=>by simp[dot] | a::v,b::w=>by
  rw[_p,dot_cons,dot_cons,z9m g v w];grind
theorem z6c:∀v:List Int,0<=hq! v
 | []=>by decide | a::v=>by
  have:=z6c v;have h:0<=a*a:=by
   rcases Int.le_total 0 a with q | q;·exact _be q q
   ·exact _bP q q
  rw[dot_cons];lia
theorem zj8(hn:a9!)(hx:x.length=n)(hk:k<n):mr! (x::ro! bS!)=bA! (x.getD k 0):=by
 rcases hn with rfl | rfl | rfl
 ·obtain⟨a,b,rfl⟩:=z8Q hx;match k,hk with
  | 0,_=>rw[zq4];simp[zcb,d2] | 1,_=>rw[zq4];simp[zcb,d2]
 ·obtain⟨a,b,c,rfl⟩:=z7i hx;match k,hk with
  | 0,_=>rw[zo4];simp[zaf 1,d3,d2] | 1,_=>rw[zo4];simp[zaf 1,d3,d2] | 2,_=>rw[zo4];simp[zaf 1,d3,d2]
 ·obtain⟨a,b,c,d,rfl⟩:=z65 hx;match k,hk with
  | 0,_=>rw[znl];simp[zbx 0,d4,d3,d2] | 1,_=>rw[znl];simp[zbx 0,d4,d3,d2] | 2,_=>rw[znl];simp[zbx 0,d4,d3,d2] | 3,_=>rw[znl];simp[zbx 0,d4,d3,d2]
theorem zc0(hB:eR! B)(hv:J!=n)(hk:k<n):eR! (v::lq!):=by
 refine⟨?_,cy! ?_⟩;·rw[_j,List.length_eraseIdx_of_lt (by rw[hB.len];exact hk),hB.len];lia
 ·rcases d2! hr with rfl | hr;·exact hv
  ·exact hB.row r (List.mem_of_mem_eraseIdx hr)
theorem zac{α β:cd!}(f:α->β):∀(l:List α)(k:Nat),(l.eraseIdx k).map f=ro! mA!
 | [],_=>by rfl | a::l,0=>by rfl | a::l,k+1=>by simp[zac f l k]
theorem zix(hn:a9!)(hP:eR! P)(hf:z08 P)(hv:J!=n)(hz:pa!=n)(hk:k<n)(g0:0<g)(e:mv P z=v)(zk:jr! k=g)(zo:∀j,j≠k->jr! j=0): h! (mr! (v::ro! (gx! P)))*g=hq! v:=by
 have tM:=zc0 (z0Q hP) hv hk;have bm:=(z6S hn hP hf).1;rw[z1P hn (z0Q hP) hP]at bm;have du:=zj8 hn (show r! (z5l P v)=n from by simp[z5l,yi,hP.len]) hk;rw[<- (show jw (v::ro! (gx! P)) P=z5l P v::ro! bS! from by rw[z1P hn tM hP,_p,zac,bm]),(zdL hn tM hP)]at du;have xk:bg! (z5l P v) k=dot v (P.map λr=>cC! k):=by simp[z5l,yi,(show k<P.length from by rw[hP.len];exact hk)]
 have xg:bg! (z5l P v) k*g=hq! v:=by rw[xk,<- z9m,<- (show v=(P.map λr=>cC! k).map λx=>x*g from by
  rw[<- e,_aj];refine _aX (cy! ?_);rw[z8f (by rw[hP.row r hr,hz]) zo,zk];rfl)]
 have nn:=z6c v;rw[(show mr! (v::ro! (gx! P))=bA! (bg! (z5l P v) k) from by
  rw[<- du];rcases hf with q | q<;>rw[q]<;>simp),_by (by
  apply _X;intro q;have:bg! (z5l P v) k*g<0:=_a4 (by lia) g0;lia),xg]
theorem zaF{α:cd!}{f:α->Int}:∀{L:List α}{k:Nat}{g:Int},k<ay!->g≠0->bg! (n6! f) k=g->(∀j,j≠k->bg! (n6! f) j=0)-> L.filter (λx=>bi! (f x=0))=L.eraseIdx k/\∃b,E! L k b/\L.filter (λx=>cr! (f x) 0)=[b]
 | [],k,g,h,_,_,_=>by cases h | a::L,0,g,_,g0,e,o=>by
  have fa:f a=g:=by exact e
  have zrl:∀x∈L,f x=0:=by
   intro x hx;obtain⟨i,hi,rfl⟩:=oN!;simpa[hi] using (o (i+1) (by lia))
  refine eS! (by simp[fa,g0,(_bH.mpr (ap! (by simp[zrl x hx])):L.filter (λx=>bi! (f x=0))=L)]) a ?_;rw[_aC,(_bk.mpr (ap! (by simp[zrl x hx])))];simp[fa,g0] | a::L,k+1,g,h,g0,e,o=>by
  have fa:f a=0:=by exact o 0 (by lia)
  obtain⟨i1,b,i2,i3⟩:=zaF (by simpa using h) g0 (by exact e) λj hj=>by exact o (j+1) (by lia)
  refine⟨by simp[fa,i1],b,by exact i2,?_⟩;rw[_aC,i3];simp[fa]
end Pm
namespace Pg
open L2 Dd Pm
theorem vr(h:aj! ρ i!):zd i ρ s=k! d:=by rw[yf,h]
theorem zij(h:t ρ s=k! t!):fIf t f g ρ s=g ρ s:=by rw[z7r,h,Rb,_q (by decide)]
theorem zsW(h:t ρ s=k! t!)(h2:u ρ s=k! t!):fOr t u ρ s=k! t!:=by rw[zsg,h,Rb,_q (by decide),h2]
theorem z2j(h:aK!=aM! b):tOf f ρ s=k! b:=by rw[qM,h];rfl
theorem zpC(h:t ρ s=k! c!):z47 t ρ s=k! t!:=by rw[z8C,h];rfl
theorem zaM(hv:eJ!)(hu:pi!=n)(hb:∀y∈u,of!<2 ^ k)(hm:m<=bB!)(hk:k<=bB!)(s:Sto):wO [aw!,rD u,d! x] s=aM! (bi! (hq! u=x)):=by
 have w2 := z3s s hb hv.abs hk hm (by have:=hv.sz;lia);have key:hz! (yd [e,d! n] s=bN!->xT [e,d] s=u! (hq! u)->yM [d] s=u! n->wO [d,e,d! x] s=aM! (bi! (hq! u=x))):=λd e a1 a2 a3=>by simp[wO,Mof,z2U,zx,a1,a2,a3]
 exact key _ _ (by
  have:=z0b u s (by have:=hv.sz;lia);rw[hu]at this;exact this) w2 (by simp[yM,zV,hv.len])
structure Sh(r:Rl)(n:Nat)(v:g!)(ls:fC!)(z:g!)(k:Nat)(B:Tb)(b:g!):j! where
 run:fP! v
 len:oO!
 last:ls.getLast? = b! z
 lot:Lot n z
 kn:k<n
 zk:jr! k=fM!
 zo:∀j,j≠k->jr! j=0
 g0:0<fM!
 B_:B=gx! hn!
 tab:eR! B
 bd:Bd 318 B
 fair:z08 hn!
 ptab:eR! hn!
 pbd:Bd 104 hn!
 mvB:mv B v=z
 at_:E! B k b
 fz:B.filter (λx=>bi! (hq! x=0))=lq!
 fn:B.filter (λx=>cr! (hq! x) 0)=[b]
 det:h! (bA! (Pm.det 4 (v::lq!)))*fM!=hq! v
theorem zpj(r:Rl)(h:lN!):∃ls z k B b,Sh r n v ls z k B b:=by
 obtain⟨ls,Rn,ll⟩:=zlp (20*104+3) v dt! (zqK (r:=r) h.toLot h.toN);obtain⟨z,lz,ez,Lz,gz,PZ⟩:=Rn.whole dt! (cO! (by have:=h.bd y hy;lia):∀y∈v,y<=2 ^ 104-1);obtain⟨k,hk,zk,g0,zo⟩:=ziR Lz ez;rw[gz]at zk g0;have me:Bd 104 hn!:=zmC PZ (by lia);have n4:2<=r! hn!/\r! hn!<=4:=by have:=PZ.tab.len;have:=h.sz;lia
 have tB:=z0Q PZ.tab;have o6 := zlY me n4.1 n4.2 sd!;have mB:mv (gx! hn!) v=z:=by
  have:=zmg jc! PZ.tab sd! Lz.len;rw[PZ.eq]at this;exact this
 have mi:(gx! hn!).map (λx=>hq! x)=z:=mB;obtain⟨f1,b,f2,f3⟩:=zaF (g:=fM!) (by rw[tB.len];exact hk) (by lia) (by rw[mi];exact zk) (λj hj=>by rw[mi];exact zo j hj);exact⟨ls,z,k,_,b,Rn,by lia,lz,Lz,hk,zk,zo,g0,rfl,tB,o6,sd!,PZ.tab,me,mB,f2,f1,f3,zix jc! PZ.tab sd! h.len Lz.len hk g0 PZ.eq zk zo⟩
section
variable {n:Nat}{v:g!}{r:Rl}{ls:fC!}{z:g!}{k:Nat}{B:Tb}{b:g!}
theorem Sh.rowb(S:Sh r n v ls z k B b):∀x∈B,x.length=n/\∀y∈x,of!<2 ^ 318:=ap! ⟨S.tab.row x hx,S.bd x hx⟩
theorem zd2(h:lN!) (S:Sh r n v ls z k B b) (s:Sto):∀x∈B,xT [rD x,aw!] s=u! (hq! x):=ap! (z3s s (S.bd x hx) h.abs (by decide) (by decide) (by have:=S.tab.row x hx;have:=h.sz;lia))
end
end Pg
namespace Pg
open L2 Dd Pm
theorem jk{ar:FA}{ρ:Ev}{s s1:Sto}{n:Nat}(hn:dm! n)(h:ar ρ s=T! [d! n]):jB ar ρ s=T! (aS! n (fz! (Z! k)),[]):=by
 rw[zdX,h,Dd.R.bind_ok];simp only;rw[b7! (by lia) (by lia)];rfl
end Pg
namespace Pn
open L2 Dd Pm Pg
def z0M(n:Nat):eH! D
 | .tup ys=>ga! dr! n&&ys.all isI | _=>false
theorem z8O{n:Nat}(hk:Kd x)(hn:dm! n)(s:Sto):yd [x,d! n] s=aM! (z0M n x):=by cases x with
 | tup ys=>
  by_cases h:dr!=n
  ·subst h;rw[z2i hk s hn];simp[z0M]
  ·simp[yd,Mof,uT,zx,gIs,tyD,isT,yM,zV,(show ¬ (h! dr!=n) from by lia),z0M,h] | scr _=>exact hk.elim | _=>
  have hd:=hk.ty;first
  | (simp[tyD]at hd;done) | rfl
theorem Bn.up(h:Bn m d)(hk:m<=k):Bn k d:=⟨h.kd,λxs i e hi=>_i (h.bd xs i e hi) (_B (by decide) hk)⟩
theorem z9g:LeM yF z0j:=LeM.mof (sj! LeS.rfl)
theorem zly(s:Sto) (hm:m<=bB!) (hk:k<=bB!):∀(ps:List (Int×Int)) (aD:Int) (all:List D) (a b:Option D),(∀p∈ps,bA! p.1<2 ^ m/\bA! p.2<2 ^ k)-> ∃a' b',yL [] all (d5! (yN 5 6 d ρ s) (qp ρ' s')) (og! (iF! (bO! p.1 p.2))) [t,v,f,ln,e! aD,a,b] s=a6! [t,v,f,ln,e! (aD+(og! (λp=>p.1*p.2)).sum),a',b']
 | [],aD,all,a,b,_=>⟨a,b,by simp[yL,okG]⟩ | p::ps,aD,all,a,b,h=>by
  obtain⟨h1,h2⟩:=h p (by simp);obtain⟨a',b',ih⟩:=zly (t:=t) (v:=v) (f:=f) (ln:=ln) s hm hk ps (aD+p.1*p.2) all (e! p.1) (e! p.2) λq hq=>h q (by simp[hq]);refine aQ! a' b' ?_;rw[_p,yL,_h (by intro p hp;cases hp),z8I,Rb];simp only[_F,_C];rw[(show qp [t,v,f,ln,e! aD,e! p.1,e! p.2] s=a6! [t,v,f,ln,e! (aD+p.1*p.2),e! p.1,e! p.2] from by simp[(z3A s h1 hm h2 hk)])];simp only[_p,_aA];rw[<- Int.add_assoc];exact ih
theorem zhQ(r v:g!):(ji! r v (λp=>p.1*p.2)).sum=eM! v:=by unfold dot;rw[zw]
theorem zlP{s:Sto} : (s++[x]).set cf! y=s++[y]:=by simp
noncomputable abbrev zs3:D->Ev->fF! Fl:=d5! (yh 3 d ρ s) ((be! vw vD wo) ρ' s')
theorem zkl(a3 a4 a5 a6:fg!) (hv:z8c (s++kV!) v=b! (iL vs,[])) (hr:∀x∈r,dc! m) (eD:∀x∈vs,dc! k) (hm:m<=bB!) (hk:k<=bB!) (ha:jG!<e3!): ∃b4 b5 b6,zs3 (rD r) [b! T,bx!,N!,a3,a4,a5,a6] (s++kV!)=F! [b! T,bx!,N!,bX! r,b4,b5,b6] (s++bF! (acc++[eM! vs])):=by
 obtain⟨a',b',lp⟩:=zly (t:=b! T) (v:=bx!) (f:=N!) (ln:=bX! r) (m:=m) (k:=k) (s++kV!) hm hk (rs! r vs) 0 (z3S (iL r) (iL vs)) a5 a6 (bo! ⟨hr _ (lO!).1,eD _ (lO!).2⟩);refine⟨e! (eM! vs),a',b',?_⟩;rw[show zs3 (rD r) [b! T,bx!,N!,a3,a4,a5,a6] (s++kV!)=zA vw (zA vD wo) [b! T,bx!,N!,bX! r,a4,a5,a6] (s++kV!) from rfl];have f3:vw [b! T,bx!,N!,bX! r,a4,a5,a6] (s++kV!)=F! [b! T,bx!,N!,bX! r,e! 0,a5,a6] (s++kV!):=rfl;rw[zn f3,zn (by
  rw[vD,qJ,zgs];simp only[zy,zM,yf,_c,_d,Rb,hv,show z8c (s++kV!) (rD r)=b! (iL r,[]) from rfl,_aH];rw[z94]at lp ⊢;rw[zhQ,Int.zero_add]at lp;exact lp),(show wo [b! T,bx!,N!,bX! r,e! (eM! vs),a',b'] (s++kV!)=F! [b! T,bx!,N!,bX! r,e! (eM! vs),a',b'] (s++bF! (acc++[eM! vs])) from by rw[wo,zlq (L:=s.length) (xs:=acc) (x:=eM! vs) (s2:=s++kV!) rfl rfl (by simp) ha,zlP])]
theorem ze3(hv:∀acc,z8c (s++kV!) v=b! (iL vs,[])) (eD:∀x∈vs,dc! k) (hm:m<=bB!) (hk:k<=bB!):∀(Rs acc:List (List Int)) (ac:List Int) (all:List D) (a3 a4 a5 a6:Option D),(∀r∈Rs,∀x∈r,dc! m)->ac.length+Rs.length<=e3!-> ∃b3 b4 b5 b6,yL [] all zs3 (Rs.map rD) [b! T,bx!,N!,a3,a4,a5,a6] (s++bF! ac)=F! [b! T,bx!,N!,b3,b4,b5,b6] (s++bF! (ac++mv Rs vs))
 | [],acc,ac,all,a3,a4,a5,a6,_,_=>⟨a3,a4,a5,a6,by simp[yL,okG,mv]⟩ | r::Rs,acc,ac,all,a3,a4,a5,a6,h,hl=>by
  obtain⟨b4,b5,b6,e⟩:=zkl (T:=T) (v:=v) (r:=r) (vs:=vs) (m:=m) (k:=k) (s:=s) (acc:=ac) a3 a4 a5 a6 (hv ac) (h r (by simp)) eD hm hk (by simp at hl;lia);obtain⟨c3,c4,c5,c6,ih⟩:=ze3 hv eD hm hk Rs acc (ac++[eM! vs]) all (bX! r) b4 b5 b6 (λq hq=>h q (by simp[hq])) (by simp at hl ⊢;lia);refine⟨c3,c4,c5,c6,?_⟩;rw[_p,yL,_h (by intro p hp;cases hp),e,Rb];simp only[mv,_p]at ih ⊢;rw[ih,_bY,List.singleton_append]
theorem zqX(s:Sto) (hv:v=p! (iL vs)\/v=eF! vs) (hA:Bd m A) (eD:∀x∈vs,dc! k) (hm:m<=bB!) (hk:k<=bB!) (hl:dm! qG!):vp [tD A,v] s=k! (rD (mv A vs)):=by
 obtain⟨b3,b4,b5,b6,lp⟩:=ze3 (T:=tD A) (λacc=>by rcases hv with rfl | rfl<;>rfl:∀acc,z8c (s++kV!) v=b! (iL vs,[])) eD hm hk A [] [] (A.map rD) none none none none hA (by simp;lia);have f1:z0F [b6! A,bx!,a!,a!,a!,a!,a!] s=F! [b6! A,bx!,N!,a!,a!,a!,a!] (s++bF! []):=by rfl
 have f2:z0C [b6! A,bx!,N!,a!,a!,a!,a!] (s++bF! [])=F! [b6! A,bx!,N!,b3,b4,b5,b6] (s++bF! (mv A vs)):=lp;simp only[vp,z69,Mof,z1d];rw[show zx ["_law_table_here",kq!,hy!,fX!,pc!,d4!,dK!] [tD A,v]=[b6! A,bx!,a!,a!,a!,a!,a!] from rfl];simp only[_j,_l,_x];rw[zn f1,zn f2,(show qg [b6! A,bx!,N!,b3,b4,b5,b6] (s++bF! (mv A vs))=.ok (.rt (rD (mv A vs))) (s++bF! (mv A vs)) from by
  rw[qg,yo,xh (x:=l7!) x!];simp only[zW,zV,(show E! (s++bF! (mv A vs)) cf! (iL (mv A vs)) from by simp),Rb])];rw[zdS,List.take_left'];rfl
theorem zqb{B:Tb} {f g:FE} (s:Sto) (hd:d=p! (ln! rD)\/d=ab! (ln! rD)) (hb:∀r∈B,aE!=n) (hj:j<n) (hl:dm! B.length) (hf:aK!=k! d) (hm:vd mp ρ=[e! (h! j),a!]): zv (zT f) mp cc! zZ (gb! 1) ρ s=k! (eF! (ln! (λr=>cC! j))):=by rw[comp_map (fi:=zT f) (mp:=mp) (fg:=cc!) (fe:=gb! 1) (ρ:=ρ) (s:=s) rD (λr=>aJ! (cC! j)) (λr=>[aV!,bX! r]) B (by rcases hd with rfl | rfl<;>simp[hf]) (λa _=>by rw[hm];rfl) (cy! (by
    have:=z87 (xs:=iL r) (j:=j) (d:=d! (cC! j)) s (by simp[_z,_b (by rw[hb r hr];exact hj),List.getD]);exact this)) (by simp[cap];lia),show iL (ln! (λr=>cC! j))=ln! (λr=>aJ! (cC! j)) by rw[iL,_aj];rfl]
theorem zp7(hb:∀r∈B,aE!=n)(hj:j<n)(hB:Bd k B):∀x∈(ln! (λr=>cC! j)),dc! k:=ap! (by
 obtain⟨r,hr,rfl⟩:=jY!;have mj:j<aE!:=by rw[hb r hr];exact hj
 exact hB r hr _ (by rw[_n,_b mj];exact _K mj))
theorem zjE{dA dB:D} (s:Sto) (o7:dA=tD A) (o8:dB=p! (ln! rD)) (n4:n<=4) (ha:qG!=n) (o9:B.length=n) (hb:∀r∈B,aE!=n) (hA:Bd m A) (hB:Bd k B) (hm:m<=bB!) (hk:k<=bB!): zv (eb! 2) (eX! 0 1) (yh 2) zZ (dW! vp (jW! (zT o!) (au! 2) 1 (gb! 1))) (fh! dA dB aB!) s=bw! (fc! ((yi B).map (mv A))):=by
 rw[comp_map (λj:Nat=>aJ! j) (λj=>rD (mv A (ln! (λr=>cC! j)))) (λj=>[b! dA,b! dB,aV!]) iD! (jk (by lia) (by rfl)) (λa _=>by rfl) (λj hj=>?_) (by simp[cap];lia)];·rw[yi,o9,_aj,_aj];rfl
 ·have gD:j<n:=by simpa using hj
  rw[call2 (x:=dA) (y:=eF! (ln! (λr=>cC! j))) rfl (zqb (f:=o!) (g:=n!) (mp:=au! 2) (ρ:=[b! dA,b! dB,aV!]) s (w! o8) hb gD (by lia) rfl rfl),o7];exact zqX s (R! rfl) hA (zp7 hb gD hB) hm hk (by lia)
theorem zj2{S:Tb} {dA dB dS:D} (s:Sto) (pb:dS=ab! (S.map rD)) (n4:n<=4) (lS:qQ!=n) (rS:∀r∈S,aE!=n): zv (eb! 2) (au! 3) cc! zZ (el! cF! b4! 1 (gb! 1)) [b! dA,b! dB,aB!,b! dS] s=bw! (fc! (yi S)):=by
 rw[comp_map (λj:Nat=>aJ! j) (λj=>rD (S.map λr=>cC! j)) (λj=>[b! dS,aV!]) iD! (jk (by lia) (by rfl)) (λa _=>by rfl) (λj hj=>?_) (by simp[cap];lia)];·rw[yi,lS,_aj];rfl
 ·rw[xh (zqb (f:=n!) (g:=n!) (mp:=b4!) (ρ:=[b! dS,e! (h! j)]) s (R! pb) rS (by simpa using hj) (by lia) rfl rfl)];rfl
theorem zpi{n:Nat}{dA dB dS:D} (s:Sto)(g1:yM [dA] s=u! n) (c2:zv (eb! 2) (eX! 0 1) (yh 2) zZ (dW! vp (jW! (zT o!) (au! 2) 1 (gb! 1))) (fh! dA dB aB!) s=k! dS) (c3:zv (eb! 2) (au! 3) cc! zZ (el! cF! b4! 1 (gb! 1)) [b! dA,b! dB,aB!,b! dS] s=k! cD!):ww [dA,dB] s=k! aD!:=by
 have st:zx [d4!,dK!,fu!,qC!] [dA,dB]=fh! dA dB a!:=rfl;have f3:wU [b! dA,b! dB,aB!,b! dS] s=k! (.rt aD!):=by rw[wU,yo,xh c3];rfl
 simp only[ww,Mof,qN,st,_j,_l,_x];rw[zn (show wV (fh! dA dB a!) s=a6! (fh! dA dB aB!) from by rw[wV,zO,xh (x:=dA) x!,g1];rfl),zn (show wX (fh! dA dB aB!) s=a6! [b! dA,b! dB,aB!,b! dS] from by rw[wX,zO,c2];rfl),f3]
theorem zmj(s:Sto)(hn:a9!)(ha:ij!)(hb:eR! B)(hA:Bd m A)(hB:Bd k B)(hm:m<=bB!)(hk:k<=bB!):ww [tD A,tD B] s=gJ! (jw A B):=by
 have n4:n<=4:=by lia
 exact zpi s (by simp[yM,zV,ha.len]) (zjE s rfl rfl n4 ha.len hb.len hb.row hA hB hm hk) (zj2 (S:=(yi B).map (mv A)) s rfl n4 (by simp[yi,hb.len]) (cy! (by
  obtain⟨c,_,rfl⟩:=jX!;simp[mv,ha.len])))
theorem zbq{lt lt':Nat->kM!}(h:∀i j,i<n->j<n->lt i j=lt' i j):∀t:W.KasT α,dT! n t=kev n lt' t
 | .ret a=>rfl | .ask i j k=>by
  unfold kev;split
  ·rename_i aJ;rw[h i j aJ.1 aJ.2];exact zbq h _
  ·rfl
def mt(a b c d e f:Bool):Nat->kM!
 | 0,1=>a | 0,2=>b | 0,3=>c | 1,2=>d | 1,3=>e | 2,3=>f | 1,0=>!a | 2,0=>!b | 3,0=>!c | 2,1=>!d | 3,1=>!e | 3,2=>!f | _,_=>false
noncomputable def trn(n:Nat)(lt:Nat->kM!):Bool:=(iD!).all λi=>(iD!).all λj=>(iD!).all λk=>!(lt i j&&lt j k)||lt i k
noncomputable def gud(n:Nat)(lt:Nat->kM!):Bool:=match dT! n sn! with
 | none=>false | some p=>bi! (qs! iD!)&&bi! (ry! (c7! i j))
theorem zuh:∀a b c d e f:Bool,trn 2 (mt a b c d e f)=c!->gud 2 (mt a b c d e f)=c!:=by decide +kernel
theorem zuP:∀a b c d e f:Bool,trn 3 (mt a b c d e f)=c!->gud 3 (mt a b c d e f)=c!:=by decide +kernel
theorem zub:∀a b c d e f:Bool,trn 4 (mt a b c d e f)=c!->gud 4 (mt a b c d e f)=c!:=by decide +kernel
theorem z70{lt lt':Nat->kM!}(h:∀i j,i<n->j<n->lt i j=lt' i j)(g:gud n lt'=c!):∃p,dT! n sn!=b! p/\qs! iD!/\ry! (c7! i j):=by
 unfold gud at g;rw[<- zbq h]at g;cases e:dT! n sn! with
 | none=>rw[e]at g;cases g | some p=>
  rw[e]at g;simp only[_Q,_au]at g;refine mq! p g.1 (List.Pairwise.imp_of_mem (λ{i j} hi hj q=>?_) g.2);rw[h i j (_aJ.mp (g.1.mem_iff.mp hi)) (_aJ.mp (g.1.mem_iff.mp hj))];exact q
theorem zf9(h2:2<=n)(h4:n<=4)(pc:∀i,lt i i=t!)(aD:∀i j,i<n->j<n->i≠j->lt j i=! lt i j)(tr:∀i j k,c7! i j->c7! j k->c7! i k): ∃p,dT! n sn!=b! p/\qs! iD!/\ry! (c7! i j):=by
 have eE:∀i j,i<n->j<n->lt i j=mt (lt 0 1) (lt 0 2) (lt 0 3) (lt 1 2) (lt 1 3) (lt 2 3) i j:=λi j hi hj=>by
  have ml:i=0\/i=1\/i=2\/i=3:=by lia
  by_cases e:i=j
  ·subst e;rw[pc];rcases ml with rfl | rfl | rfl | rfl<;>rfl
  ·have q:=aD j i hj hi (λz=>e i4!);rcases ml with rfl | rfl | rfl | rfl<;>rcases (show j=0\/j=1\/j=2\/j=3 from by lia) with rfl | rfl | rfl | rfl<;>first | exact f6! e | rfl | exact q
 have tm:trn n (mt (lt 0 1) (lt 0 2) (lt 0 3) (lt 1 2) (lt 1 3) (lt 2 3))=c!:=by
  simp only[trn,_S,_aJ];intro i hi j hj k hk;rw[<- eE i j hi hj,<- eE j k hj hk,<- eE i k hi hk];cases a:lt i j<;>cases b:lt j k<;>simp;exact tr i j k a b
 rcases (show n=2\/n=3\/n=4 from by lia) with rfl | rfl | rfl;·exact z70 eE (zuh _ _ _ _ _ _ tm)
 ·exact z70 eE (zuP _ _ _ _ _ _ tm)
 ·exact z70 eE (zub _ _ _ _ _ _ tm)
theorem zg4(p:Int×Int):n5! p p=t!:=by simp[Dd.lexLt]
theorem zmE{p q:Int×Int}(h:p≠q):n5! q p=! n5! p q:=by
 obtain⟨a,b⟩:=p;obtain⟨c,d⟩:=q;simp only[Dd.lexLt];by_cases e:a=c
 ·subst e;have:b≠d:=λz=>h (by rw[z]);simp only[_x,this,this.symm,_a0];by_cases l:b<d;·simp[l];lia
  ·simp[l];lia
 ·have e':¬ c=a:=λz=>e i4!;simp only[e,e',_a0];by_cases l:a<c;·simp[l];lia
  ·simp[l];lia
theorem zg1: Dd.lexLt p q=c! ↔ p.1<q.1\/(p.1=q.1/\p.2<q.2):=by
 obtain⟨a,b⟩:=p;obtain⟨c,d⟩:=q;simp only[Dd.lexLt];by_cases e:a=c
 ·subst e;by_cases e2:b=d
  ·subst e2;simp
  ·simp[e2]
 ·simp[e]
theorem zpx(h:Dd.lexLt p q=c!)(h':Dd.lexLt q r=c!):Dd.lexLt p r=c!:=by
 rw[zg1]at *;lia
noncomputable abbrev pD(p:Int×Int):D:=p! (bO! p.1 p.2)
theorem z7T:∀ps:List (Int×Int),z3U (og! pD)=b! ps
 | []=>rfl | p::ps=>by simp[z3U,z7T ps]
theorem zbt(h2:2<=a5!) (h4:a5!<=4) (nd:ps.Nodup) (s:Sto): ∃qs:List (Int×Int),z2W [ab! (og! pD)] s=bw! sB!/\qs.Perm ps/\ss! (Dd.lexLt a b=c!):=by
 obtain⟨p,e,pm,pw⟩:=zf9 (n:=ps.length) (lt:=λi j=>Dd.lexLt (f8! (0,0)) (oK! (0,0))) h2 h4 (λi=>zg4 _) (λi j hi hj aJ=>zmE λz=>aJ (by
  rw[_n,_n,_b hi,_b hj]at z;exact (_aY nd).mp (by simpa using z))) (λi j k a b=>zpx a b);have cz:∀i∈p.toList,i<a5!:=e8! (_aJ.mp (pm.mem_iff.mp hi));refine⟨jP! (f8! (0,0)),?_,?_,?_⟩
 ·have em:(jP! ((og! pD).getD i at!))=(jP! (f8! (0,0))).map pD:=by
   rw[_aj];refine _aX (e8! ?_);simp[_n,(cz i hi)]
  simp only[z2W,Dd.listOf,z7T,_W];rw[b7! h2 (by lia),e];simp only;rw[b7! (by simpa using (show p.toList.all (λi=>bi! (i<r! (og! pD)))=c! from by
   rw[_S];intro i hi;simpa using cz i hi)) (by rw[pm.length_eq,List.length_range]),em]
 ·refine bL! (pm.map λi=>f8! (0,0)) ?_;rw[(show aS! a5! (λi=>f8! (0,0))=ps from by
   apply _aQ;·simp
   ·intro i h1 h2;simp[_n,h2])]
 ·rw[List.pairwise_map];exact pw
end Pn
namespace Pm
open L2 (maxL minL maxL_ge maxL_mem minL_le minL_mem)
noncomputable abbrev enP(v:g!):f3! Int Nat:=v.zipIdx
noncomputable def zaw(v:g!):mH!:=(fW! (enP v) (λp=>dO! 0 p.1)).map λp=>(p.1,h! p.2)
theorem zcT: p∈enP v ↔ E! v p.2 p.1:=List.mem_zipIdx_iff_getElem?
theorem z0S: a∈zaw v ↔ ∃i:Nat,a.2=i/\aj! v a.1/\0<a.1:=by
 unfold zaw;simp only[_t,_bo,_au];constructor
 ·rintro⟨p,⟨hp,h0⟩,rfl⟩;exact mq! p.2 (zcT.mp hp) h0
 ·rintro⟨i,e,g,h0⟩;exact⟨(a.1,i),⟨zcT.mpr g,h0⟩,by rw[<- e]⟩
theorem zgf: ∀{v:List Int}{i:Nat},aj! v x->qH! x<=i
 | [],i,h=>by simp at h | y::v,0,h=>by
  simp only[_c,_y]at h;subst h;simp | y::v,i+1,h=>by
  simp only[_d]at h;have:=zgf h;rw[List.idxOf_cons];cases y==x<;>simp<;>lia
theorem getD_get{v:g!} (h:eZ!):aj! v bT!:=by simp[_n,h]
theorem zdH{w:g!}{qs:mH!}(hw:∀x∈w,0<=x)(hn:nz w≠[])(hm:∀a,a∈qs ↔ a∈zaw w)(pw:ss! (Dd.lexLt a b=c!)):∃jI,qs=(iJ! w,h! (lp w))::jI:=by
 obtain⟨l1,l2,l3⟩:=zcx hn;have cz:(iJ! w,h! (lp w))∈zaw w:=z0S.mpr ⟨lp w,rfl,by rw[pn! l1,l2],(by
  have:=hw _ (rO! hn).1;lia)⟩;cases qs with
 | nil=>exact cN! ((hm _).mpr cz) (by simp) | cons a jI=>
  refine as! jI ?_;obtain⟨i,e,g,h0⟩:=z0S.mp ((hm a).mp ju!);have rj:=minL_le _ (qJ! ⟨_u g,by lia⟩);rcases d2! ((hm _).mpr cz) with z | z;·rw[z]
  ·have lx:=Pn.zg1.mp ((List.pairwise_cons.mp pw).1 _ z);simp only at lx;rcases lx with q | ⟨q,q2⟩;·lia
   ·have:w.idxOf a.1<=i:=zgf g;rw[q]at this;have e2:lp w=w.idxOf (iJ! w):=rfl;lia
theorem z77{n:Nat}{v:g!}(h:a2!)(a:Int×Int):a∈zaw cQ! ↔ a∈zaw v/\a.2≠h! a8!:=by
 have ne:=h.ne;rw[z0S,z0S];constructor
 ·rintro⟨i,e,g,h0⟩;have hi:i<r! cQ!:=(cE! g);rw[pn! hi,_y,(uc ne i)]at g;split at g;·lia
  ·rw[wx ne]at hi;exact⟨⟨i,e,by rw[pn! hi,g],h0⟩,by lia⟩
 ·rintro⟨⟨i,e,g,h0⟩,hg⟩;have hi:eZ!:=cE! g;rw[pn! hi]at g;refine⟨i,e,?_,h0⟩;rw[pn! (by rw[wx ne];exact hi),uc ne i,_q (by lia),g]
theorem z6t(h:a2!):∀x∈cQ!,0<=x:=ap! (by
 rw[others_eq ew!]at hx;rcases _A hx with q | q;·exact h.nn x q
 ·lia)
theorem zmN{qs:mH!}(hw:∀x∈w,0<=x)(hn:nz w≠[])(hm:∀a,a∈qs ↔ a∈zaw w):a4! se!/\jE! se!=jE! w/\0<jE! w:=by
 obtain⟨y,hy⟩:=List.exists_mem_of_ne_nil _ hn;obtain⟨y1,y2⟩:=uN.mp hy;have p0:0<jE! w:=by
  have:=hw y y1;have:=maxL_ge (xs:=w) y y1;lia
 obtain⟨i1,i2⟩:=zaY (kn! (λz=>hn (by rw[z];rfl):a4! w));have fU:jE! w∈se!:=_t.mpr (b1! ((hm _).mpr (z0S.mpr (mq! _ (by rw[pn! i1,i2]) p0)):(jE! w,h! (w.idxOf (jE! w)))∈qs));have ne:a4! se!:=List.ne_nil_of_mem fU;refine aQ! ne ?_ p0;have h1:=n0! _ fU;obtain⟨a,ha,e⟩:=_t.mp (kn! ne);obtain⟨i,_,g,_⟩:=z0S.mp ((hm a).mp ha);have h3:=maxL_ge (xs:=w) a.1 (_u g);lia
theorem zed{w:g!} (hk:k∈w) (p:kM!) (hp:∀i,i<w.length->p i=bi! (w.getD i 0=k)):∃jI,fW! (iX! w.length) p=w.idxOf k::jI:=by
 obtain⟨i1,i2⟩:=zaY hk;have hd:=List.head?_filter (p:=p) (l:=iX! w.length);rw[(show (iX! w.length).find? p=b! (w.idxOf k) from by
  rw[List.find?_range_eq_some];refine⟨by rw[hp _ i1,i2];simp,by simpa using i1,λj hj=>?_⟩;rw[hp j (by lia)];simp only[Bool.not_eq_true',decide_eq_false_iff_not];intro z;have:=zgf (v:=w) (i:=j) (x:=k) (by rw[pn! (by lia),z]);lia)]at hd;cases e:fW! (iX! w.length) p with
 | nil=>rw[e]at hd;simp at hd | cons a jI=>
  rw[e]at hd;simp only[List.head?_cons,_y]at hd;exact⟨jI,by rw[hd]⟩
noncomputable def zfW(v:g!)(z:Int)(ps:jl!)(xs:g!):g!:=ps.foldl (λxs p=>ip! p (bp! p / z)) xs
theorem zdW(v:g!)(z:Int):∀(ps:List Nat)(xs:List Int),r! (zfW v z ps xs)=v!
 | [],xs=>rfl | p::ps,xs=>by simpa[zfW] using (zdW v z ps (ip! p (bp! p / z)))
theorem zdV(v:g!)(z:Int):∀(ps:List Nat)(xs:List Int)(i:Nat),i<v!->bg! (zfW v z ps xs) i=ai! (i∈ps) (bT! / z) (xs.getD i 0)
 | [],xs,i,_=>by simp[zfW] | p::ps,xs,i,hi=>by
  have e:zfW v z (p::ps) xs=zfW v z ps (ip! p (bp! p / z)):=rfl;rw[e,(zdV v z ps (ip! p (bp! p / z)) i (by simpa using hi))];by_cases q:i∈ps;·simp[q]
  ·by_cases q2:i=p
   ·subst q2;simp[q,hi,_n]
   ·have q3:¬ p=i:=λz=>q2 i4!;simp[q,q2,_n,q3]
theorem z0Z(v:g!)(b:Nat)(ps:jl!):zfW v fm! ps (ls! 0)=yO v (b,ps):=by
 apply _aQ;·rw[zdW,yZ];simp
 ·intro i h1 h2;have hi:eZ!:=by rw[yZ]at h2;exact h2
  have:=zdV v fm! ps (ls! 0) i (by simpa using hi);rw[_n,_b h1,_aB]at this;rw[this];simp[yO,hi]
theorem zga(v:g!)(b:Nat):yO v (b,[])=ls! 0:=by
 apply _aQ;·rw[yZ];simp
 ·simp[yO]
end Pm
namespace Pg
open L2 Dd Pm
section
variable {r F G:Int}{s:Sto}{l:Nat}
theorem z27{fa fb fc:FE}{ρ:Ev}{s s1 s2:Sto}{L:Nat}{xs:C!}{i:Int}{d:D}(hc:fc ρ s=T! d)(ha:gk! s1=T! (.loc L))(hb:fK!=b2! ac!)(at_:E! s2 L xs)(h0:0<=i)(h1:i<v!)(hd:mw!):z0y fa fb fc ρ s=F! ρ (nZ! L (ip! i2! d)):=by
 have e:kA! i=b! i2!:=by
  unfold ixN;rw[_h h0,_h (by lia)]
 rw[zhq,hc,Rb,ha,Rb,hb,Rb];simp only[at_,e,hd,_x]
end
end Pg
namespace Po
open L2 Dd Pm Pg Pn
theorem zal:∀(v:List Int)(k:Nat),z1Q k br!=(v.zipIdx k).map (iF! (bO! (Z! p.2) p.1))
 | [],k=>rfl | x::v,k=>by simp[z1Q,zal v (k+1)]
theorem z8Z{v:g!}{f:FE}{ρ:Ev}{s:Sto}(hf:aK!=k! aw!):z1S (bC! f) ρ s=k! ((enP v).map (iF! (bO! (Z! p.2) p.1)),[]):=by simp only[z1S,zy,hf,Rb,zM,z8c,zal]
theorem zjf(h:∀x∈v,0<=x):r! (zaw v)=g9! v:=by
 simpa[zaw] using (show ∀(v:List Int)(k:Nat),(∀x∈v,0<=x)->r! (fW! (v.zipIdx k) (λp=>dO! 0 p.1))=g9! v from by
  intro v;induction v with
  | nil=>intro k _;rfl | cons x v ih=>
   intro k hx;have h0:=hx x ju!;have ih:=ih (k+1) (cO! (hx y (.tail _ hy)));rw[_bB];by_cases q:x=0
   ·subst q;simpa[nz,_aC] using ih
   ·simp only[nz,_aC,(show 0<x from by lia),q,_c2,ne_eq,not_false_eq_true,_x,_j];simpa[nz] using ih) v 0 h
theorem zmF(v:g!):(zaw v).Nodup:=by
 refine _c4 _ (λa b md z=>md ?_) (fW! (List.Pairwise.of_map (S:=λa b:Nat=>a≠b) Prod.snd (λa b h z=>h (by rw[z])) (by rw[List.zipIdx_map_snd];exact List.nodup_range'):(enP v).Nodup) _);simp only[_bq]at z;exact Prod.ext z.1 (by lia)
theorem zkr(h:a2!)(he:ed!):2<=r! (zaw v)/\r! (zaw v)<=4:=by
 have l4:=h.le4;rw[zjf fw!];have h1:g9! v≠1:=by simpa[ended] using he
 have h2:g9! v≠0:=λz=>h.nzne (_aV.mp z);have h3:g9! v<=J!:=List.length_filter_le _ _;lia
theorem ziX(h:a2!) (he:ed!) (ρ:Ev) (s:Sto) (h1:E! ρ 1 ag!): ∃qs:List (Int×Int),uV ρ s=a6! (ρ.set 3 dP!)/\(∀a,a∈qs ↔ a∈zaw v)/\ss! (Dd.lexLt a b=c!):=by
 have l2:=zkr h he;obtain⟨qs,e,pm,pw⟩:=zbt l2.1 l2.2 (zmF v) s;refine⟨qs,?_,λa=>pm.mem_iff,pw⟩;have l4:=h.le4;have c:=wb (s:=s) (mp:=iH!) (fg:=yN 0 1) (ft:=gA! dGt o! D!) (fe:=cw! o! n!) (λp:Int×Nat=>gv! (bO! p.2 p.1)) (λp=>pD (p.1,p.2)) (λp=>dO! 0 p.1) (λp=>[e! p.2,e! p.1]) (enP v) (z8Z (vr h1)) (λp _=>by rfl) (λp _=>by rfl) (λp _ _=>by rfl) (by simp[enP,cap];lia);have em:List.map (λp:Int×Nat=>pD (p.1,p.2)) (fW! (enP v) (λp=>dO! 0 p.1))=(zaw v).map pD:=by simp[zaw,_P]
 rw[em]at c;rw[uV,zO,xh c,e];rfl
theorem z6O{v:g!}{k:Nat}{jI:jl!}{f:FE}{ρ:Ev}{s:Sto}(hf:aK!=bw! (nL (k::jI))):eOp dIx f D! ρ s=u! k:=by
 rw[yx,hf,Rb];exact kZ! (_cV _)
noncomputable abbrev EV(a0 a1 a2 a3 a4 a5 a6 a7 a8 a9 a10 a11 a12:fg!):Ev:=[a0,a1,a2,a3,a4,a5,a6,a7,a8,a9,a10,a11,a12]
structure LD(d:D)(v:g!):j! where
 eq:d=aw!
 ix:∀(s:Sto)(i:Nat),eZ!->cU! d i s=u! bT!
 mx:∀s:Sto,vH [d] s=u! ie!
 len:∀s:Sto,yM [d] s=u! J!
theorem LD.of(h:a2!):LD aw! v:=⟨rfl,λs i hi=>qT s hi,λs=>z8a s ew!,λs=>by simp[yM,zV]⟩
section
variable {n:Nat}{v:g!}{d e:D}(h:a2!)(D:LD d v)(he:ed!){a0 a1 a2 a3 a4 a5 a6 a7 a8 a9 a10 a11 a12:q6!}(s:Sto)
include h D
theorem zuf:jZ (EV a0 i! a2 a3 a4 a5 a6 a7 a8 a9 a10 a11 a12) s=a6! (EV a0 i! bu! a3 a4 a5 a6 a7 a8 a9 a10 a11 a12):=by
 rw[jZ,zO,xh (x:=d) x!,D.len];rfl
theorem zuv:kf (EV a0 i! bu! a3 a4 a5 a6 a7 a8 a9 a10 a11 a12) s=a6! (EV a0 i! bu! a3 dj! a5 a6 a7 a8 a9 a10 a11 a12):=by
 have l4:=h.le4;obtain⟨jI,e⟩:=zed (w:=v) (kn! ew!) (λi=>ga! bT! ie!) (λi _=>rfl);have c:=wb (s:=s) (mp:=b4!) (fg:=cc!) (ft:=eO! (ar! 0 1) (bq! vH)) (fe:=o!) (λi:Nat=>jI! i) (λi:Nat=>jI! i) (λi=>ga! bT! ie!) (λi=>[i!,e! i]) pw! (jk (n:=v.length) (ρ:=EV a0 i! bu! a3 a4 a5 a6 a7 a8 a9 a10 a11 a12) (ar:=co! 2) (by lia) (by rfl)) (λi _=>by rfl) (e8! (by simp only[qM,yx,yf,yg,zy,zM,_c,_d,Rb,(D.ix s i (by simpa using hi)),(D.mx s),zcA])) (λi _ _=>by rfl) (by simp[cap];lia);rw[e]at c;rw[kf,zO,z6O (v:=v) c];rfl
end
def zkA(v:g!):Rl->D
 | .al=>d! db! | .tu=>dp! | _=>at!
theorem zt7(r:Rl)(s:Sto):dEq by! kH! s=aM! (ga! r .le):=by
 rw[Pg.eq_str (zhm r) (by decide +kernel)];congr 2;cases r<;>decide +kernel
theorem zqL(r:Rl)(s:Sto):dEq by! js! s=aM! (ga! r .nx):=by
 rw[Pg.eq_str (zhm r) (by decide +kernel)];congr 2;cases r<;>decide +kernel
structure RD(e:D)(r:Rl):j! where
 eq:e=by!
 le:∀s:Sto,dEq e kH! s=aM! (ga! r .le)
 nx:∀s:Sto,dEq e js! s=aM! (ga! r .nx)
 tu:∀s:Sto,dEq e (ax! fT!) s=aM! (ga! r .tu)
 in_:∀s:Sto,zc9 t! e (p! [js!,kH!]) s=aM! (bi! (r=.nx\/r=.le))
theorem RD.of(r:Rl):RD by! r:=⟨rfl,zt7 r,zqL r,zhC r,λs=>by cases r<;>rfl⟩
section
variable {n:Nat}{v:g!}{d e:D}(h:a2!){a0 a1 a2 a3 a4 a5 a6 a7 a8 a9 a10 a11 a12:q6!}(s:Sto){qs:mH!}
theorem zuu{r:Rl} {m:Int} {jI:mH!} (E:RD e r) (hq:qs=(m,h! db!)::jI):jQ (EV A! a1 a2 dP! a4 a5 a6 a7 a8 a9 a10 a11 a12) s=a6! (EV A! a1 a2 dP! a4 (b! (zkA v r)) a6 a7 a8 a9 a10 a11 a12):=by
 have i1:cU! (ab! sB!) 0 s=k! (pD (m,db!)):=by
  rw[hq];exact kZ! (_cV _)
 have i2:cU! (pD (m,db!)) 1 s=u! db!:=qT (r:=[m,db!]) (j:=1) s (by simp);have hg:(ai! (nmR r=iT!) (aJ! db!) (ai! (nmR r=fT!) dp! at!))=zkA v r:=by
  cases r;·rfl
  ·rfl
  ·rfl
  ·rfl
 rw[jQ,zO,(show zfM iT! fT! (c5! (gI! 3) ak!) D! n! (EV A! a1 a2 dP! a4 a5 a6 a7 a8 a9 a10 a11 a12) s=k! (zkA v r) from by
  unfold zfM;rw[yx,yx,vr (d:=ab! sB!) rfl,Rb,z00,Rb,i1,Rb,z00,Rb,i2,Rb,z00,Rb,vr (d:=e) rfl,Rb,E.eq];simp only;rw[hg])];rfl
theorem zfS(g:Int×Int->D)(fe:FE)(pd:∀a:Int×Int,fe [dj!,e! a.1,e! a.2] s=k! (g a))(hl:jH!<=4): zv (zT ba!) (dz! 4) (yN 1 2) (d7! 2 n!) fe (EV a0 a1 a2 dP! dj! a5 a6 a7 a8 a9 a10 a11 a12) s = bw! ((rc! (cr! a.2 (h! a8!))).map g):= wb (s:=s) pD g (λa=>cr! a.2 a8!) (λa=>[dj!,e! a.1,e! a.2]) qs (qU x!) (λa _=>by rfl) (λa _=>by simp) (λa _ _=>pd a) (by simp[cap];lia)
variable (he:ed!)(hm:∀a,a∈qs ↔ a∈zaw v)(pw:ss! (Dd.lexLt a b=c!))(hl:jH!<=4)
include h he hm pw
theorem ziy:∃jI,(rc! (cr! a.2 (h! a8!)))=(iJ! cQ!,Z! (lp cQ!))::jI:= zdH (z6t h) (jK h he) (λa=>by rw[z77 h,<- hm];simp) (pw.filter _)
theorem znp:(rc! (cr! a.2 (h! a8!))).map r2!≠[]/\jE! ((rc! (cr! a.2 (h! a8!))).map r2!)=g6!/\0<g6!:= zmN (z6t h) (jK h he) (λa=>by rw[z77 h,<- hm];simp)
include hl
theorem zuB:kE (EV a0 a1 a2 dP! dj! a5 a6 a7 a8 a9 a10 a11 a12) s=a6! (EV a0 a1 a2 dP! dj! (e! (Z! (lp cQ!))) a6 a7 a8 a9 a10 a11 a12):=by
 obtain⟨jI,e⟩:=ziy h he hm pw;have c:=zfS (v:=v) (a0:=a0) (a1:=a1) (a2:=a2) (a5:=a5) (a6:=a6) (a7:=a7) (a8:=a8) (a9:=a9) (a10:=a10) (a11:=a11) (a12:=a12) s (λa=>d! a.2) I! (λa=>x!) hl;rw[e]at c;rw[kE,zO,yx,c,Rb,z00,Rb,wZ (d:=d! (lp cQ!)) (_cV _) rfl];rfl
theorem zuJ:jY (EV a0 a1 a2 dP! dj! a5 a6 a7 a8 a9 a10 a11 a12) s=a6! (EV a0 a1 a2 dP! dj! a5 (e! g6!) a7 a8 a9 a10 a11 a12):=by
 obtain⟨ne,e,_⟩:=znp h he hm pw;have c:=zfS (v:=v) (a0:=a0) (a1:=a1) (a2:=a2) (a5:=a5) (a6:=a6) (a7:=a7) (a8:=a8) (a9:=a9) (a10:=a10) (a11:=a11) (a12:=a12) s (λa=>d! a.1) o! (λa=>x!) hl;rw[(show ((rc! (cr! a.2 (h! a8!))).map λa=>aJ! a.1)=iL ((rc! (cr! a.2 (h! a8!))).map r2!) from by simp[_P])]at c;rw[jY,zO,xh c,zor s ne,e];rfl
omit pw hl hm
theorem zu8(D:LD d v):kg (EV a0 i! bu! a3 dj! a5 (e! g6!) a7 a8 a9 a10 a11 a12) s = a6! (EV a0 i! bu! a3 dj! (e! (Z! ((cQ!).idxOf g6!))) (e! g6!) a7 a8 a9 a10 a11 a12):=by
 have l4:=h.le4;have ol:=wx ew!;have pos:0<g6!:=by
  obtain⟨y,hy⟩:=List.exists_mem_of_ne_nil _ (jK h he);obtain⟨y1,y2⟩:=uN.mp hy;have:=z6t h y y1;have:=maxL_ge (xs:=cQ!) y y1;lia
 obtain⟨jI,e⟩:=zed (w:=cQ!) (kn! (λz=>by rw[z]at ol;simp at ol;lia)) (λi=>ga! bT! g6!&&cr! i a8!) (λi _=>by
  rw[uc ew!];by_cases q:i=a8!
  ·simp only[q,_x,ne_eq,not_true_eq_false,_ct,Bool.and_false];symm;simp;lia
  ·simp[q]);rw[ol]at e;have c:=wb (s:=s) (mp:=hj! 6 4 1) (fg:=yh 3) (ft:=zkN (eO! (ar! 2 3) n!) (d7! 3 o!)) (fe:=ba!) (λi:Nat=>jI! (i:Nat)) (λi:Nat=>jI! (i:Nat)) (λi=>ga! bT! g6!&&cr! i a8!) (λi=>[e! g6!,e! (h! a8!),i!,eY! i]) pw! (jk (n:=v.length) (ρ:=EV a0 i! (eY! J!) a3 (e! (h! a8!)) a5 (e! g6!) a7 a8 a9 a10 a11 a12) (ar:=co! 2) (by lia) (by rfl)) (λi _=>by rfl) (e8! (by
   have e1:=D.ix s i (by simpa using hi);have e3:bi! (dM! i≠h! a8!)=cr! i a8!:=by
    by_cases q:i=a8!;·simp[q]
    ·simp[q,(show ¬ h! i=h! a8! from by lia)]
   simp only[zi0,qM,yx,yf,_c,_d,Rb,e1,zcA,zct,e3];cases ga! bT! g6!<;>rfl)) (λi _ _=>by rfl) (by simp[cap];lia);rw[e]at c;rw[kg,zO,z6O (v:=v) c];rfl
omit he
theorem zs1(b:Nat):ui (EV a0 a1 bu! a3 a4 a7! a6 a7 a8 a9 a10 a11 a12) s=a6! (EV a0 a1 bu! a3 a4 a7! a6 (L! (nL (wG v b))) a8 a9 a10 a11 a12):=by
 have l4:=h.le4;rw[ui,zO,(wb (s:=s) (mp:=au! 5) (fg:=cc!) (ft:=d7! 1 n!) (fe:=o!) (λi:Nat=>jI! (i:Nat)) (λi:Nat=>jI! (i:Nat)) (λi=>cr! i b) (λi=>[eY! b,eY! i]) pw! (jk (n:=v.length) (ρ:=EV a0 a1 (e! (h! J!)) a3 a4 (eY! b) a6 a7 a8 a9 a10 a11 a12) (ar:=co! 2) (by lia) (by rfl)) (λi _=>by rfl) (e8! (by
   have e3:bi! (dM! i≠h! b)=cr! i b:=by
    by_cases q:i=b;·simp[q]
    ·simp[q,(show ¬ h! i=h! b from by lia)]
   simp only[qM,yx,yf,_c,_d,Rb,zct,e3])) (λi _ _=>by rfl) (by simp[cap];lia))];rfl
end
theorem zjY(n:Nat):hB! n [aJ! 0]=iL (gW! n 0):=by induction n with
 | zero=>rfl | succ n ih=>simp[_aM,ih]
theorem zmq(ha:gk! s=k! (.loc L))(hb:fb ρ s=b2! x)(at_:E! s2 L xs)(hl:v!<e3!)(hx:x.flat=c!):wk (zcH fa fb) ρ s=F! ρ (nZ! L (xs++[x])):=by
 rw[z0G,z8y,ha,Rb];simp only;rw[hb,Rb];simp only[at_];rw[b7! hx (by simp[cap];lia)];rfl
theorem zeO(h:t ρ s=k! c!):fIf t f g ρ s=aK!:=by rw[z7r,h,Rb,gC!]
section
variable {n m:Nat}{v:g!}{d e:D}(h:eJ!)(D:LD d v)(hm:m<=hA!){a0 a1 a2 a3 a4 a5 a6 a7 a8 a9 a10 a11 a12:q6!}(s:Sto){b:Nat}(hb:b<J!)
include h hm in
theorem zkw{i:Nat}(hi:eZ!):0<=bT!/\bT!<2 ^ bB!:=by
 refine⟨h.nn _ (qN! hi),_cJ (h.bd _ (qN! hi)) ?_⟩;have:dM! 2 ^ m<=2 ^ bB!:=_B (by decide) (by lia);have:=Int.ofNat_le.mpr i7!;simpa using this
include h in
theorem zsx:xV (EV a0 a1 bu! a3 a4 a5 a6 a7 a8 a9 a10 a11 a12) s=F! (EV a0 a1 bu! a3 a4 a5 a6 a7 (qW! (r! (s++[[kB!]]))) a9 a10 a11 a12) ((s++[[kB!]])++bF! (ls! 0)):=by
 have l4:=h.toLot.le4;have e0:z9Z (bC! D!) (EV a0 a1 bu! a3 a4 a5 a6 a7 a8 a9 a10 a11 a12) s=gG! (s++[[kB!]]):=by
  simp only[z8r,zy,zM,z00,Rb];rw[b7! (by simp[cap]) (yH [0])]
 have e1:zeu l7! (d! J!) (s++[[kB!]])=.ok (.loc (r! (s++[[kB!]]))) ((s++[[kB!]])++bF! (ls! 0)):=by
  have lo:Dd.listOf (s++[[kB!]]) l7!=b! [kB!]:=by simp[Dd.listOf]
  simp only[zeu,lo,_T,zjY];rw[_h ⟨by simp[cap];lia,by lia,by lia,yH _⟩]
 rw[xV,zO,yx,e0,Rb,vr (d:=d! J!) rfl,Rb,e1];rfl
include h D hm hb
theorem zmS{S0:Sto} {all:dZ! Dd.D}:∀(ps:List Nat) (xs:List Int) (p9:Option Dd.D),(∀i∈ps,eZ!)->v!=J!-> ∃dU,yL [] all (d5! (yh 9 d ρ s) (xR ρ' s')) (nL ps) (EV a0 i! a2 a3 a4 a7! a6 a7 pE! p9 a10 a11 a12) (S0++bF! xs) = F! (EV a0 i! a2 a3 a4 a7! a6 a7 pE! dU a10 a11 a12) (S0++bF! (ai! (0<fm!) (zfW v fm! ps xs) xs))
 | [],xs,p9,_,_=>⟨p9,by simp[yL,okG,zfW]⟩ | i::ps,xs,p9,hi,hl=>by
  have i0:=hi i ju!;have B:=zkw h hm hb;have gE:=D.ix (S0++bF! xs) b hb;have pf:=D.ix (S0++bF! xs) i i0;have de:tOf (eOp dGt (ar! 1 5) D!) (EV a0 i! a2 a3 a4 a7! a6 a7 pE! (e! i) a10 a11 a12) (S0++bF! xs)=.ok (dO! 0 fm!) (S0++bF! xs):=by simp only[qM,yx,yf,z00,_c,_d,Rb,gE,zri]
  by_cases q:0<fm!
  ·obtain⟨dU,ih⟩:=zmS (S0:=S0) (all:=all) ps (ip! i (bT! / fm!)) (e! i) (λj hj=>hi j (.tail _ hj)) (by simpa using hl);refine as! dU ?_;have body:xR (EV a0 i! a2 a3 a4 a7! a6 a7 pE! (e! i) a10 a11 a12) (S0++bF! xs)=F! (EV a0 i! a2 a3 a4 a7! a6 a7 pE! (e! i) a10 a11 a12) (S0++bF! (ip! i (bT! / fm!))):=by
    rw[xR,zeO (by rw[de];simp only[q,_c2]),z1q];rw[z5y (s1:=S0++bF! xs) (s2:=S0++bF! xs) (L:=S0.length) (xs:=xs) (i:=h! i) (x:=bT! / fm!) (by
     rw[yx,op2 (x:=d) (y:=ac!) x! x!,pf,Rb,op2 (x:=d) (y:=eE!) x! x!,gE];exact zgG _ q B.2) x! x! (by simp) (by lia) (by lia)];simp
   rw[show nL (i::ps)=jI! i::nL ps from rfl,yL,_h (by intro p hp;cases hp),ve,Rb];simp only[_F,_C];rw[body,Rb];simp only;rw[ih];simp only[q,_x];rfl
  ·obtain⟨dU,ih⟩:=zmS (S0:=S0) (all:=all) ps xs (e! i) (λj hj=>hi j (.tail _ hj)) hl;refine as! dU ?_;rw[show nL (i::ps)=jI! i::nL ps from rfl,yL,_h (by intro p hp;cases hp),ve,Rb];simp only[_F,_C];rw[(show xR (EV a0 i! a2 a3 a4 a7! a6 a7 pE! (e! i) a10 a11 a12) (S0++bF! xs)=F! (EV a0 i! a2 a3 a4 a7! a6 a7 pE! (e! i) a10 a11 a12) (S0++bF! xs) from by
    rw[xR,zij (by rw[de];simp only[q,_ct])];rfl),Rb];simp only;rw[ih];simp only[q,_a0]
omit h D hm
theorem zgo(Q:g!)(hQ:po!=J!)(z:Int):((enP v).map λp:Int×Nat=>jI! (p.1-iI! p.2*z))=iL (ks! (λx q=>x-q*z) v Q):=by
 apply _aQ;·simp[enP,hQ]
 ·intro i h1 h2;simp[enP,_n,hQ,(by simpa[enP] using h1)]
include h D hm
theorem zsJ{Q:g!} {L:Nat} (hs:E! s L (iL Q)) (hQ:po!=J!) (hq:∀q∈Q,0<=q/\q<2 ^ m): xS (EV a0 i! a2 a3 a4 a7! a6 a7 gQ! a9 a10 a11 a12) s=a6! (EV a0 i! a2 a3 a4 a7! a6 a7 gQ! a9 (L! (iL (fD! Q b))) a11 a12):=by
 have l4:=h.toLot.le4;have B:=zkw h hm hb;have gE:=D.ix s b hb;have c:=comp_map (s:=s) (mp:=[b! 8,b! 1,b! 5,a!,a!]) (fg:=yN 3 4) (fe:=kb! 4 (iR! (ar! 0 3) (ar! 1 2))) (λp:Int×Nat=>Dd.D.tup (bO! p.2 p.1)) (λp=>jI! (p.1-iI! p.2*fm!)) (λp=>[gQ!,i!,a7!,e! p.2,e! p.1]) (enP v) (z8Z (f:=o!) (ρ:=EV a0 i! a2 a3 a4 a7! a6 a7 gQ! a9 a10 a11 a12) (by rw[<- D.eq];exact x!)) (λp _=>by rfl) (bo! (by
   have hi:p.2<po!:=by rw[hQ];exact cE! (zcT.mp hp)
   have e1:=zan (s:=s) (l:=L) (i:=p.2) (d:=d! (iI! p.2)) hs (by lia) (by simp[_n,hi]);have q1:=hq _ (qN! hi);rw[yx,vr (d:=d! p.1) rfl,Rb,yx,op2 (x:=.loc L) (y:=d! (p.2:Nat)) x! x!,e1,Rb,op2 (x:=d) (y:=d! (b:Nat)) x! x!,gE,Rb,z0I s q1.1 (_cJ q1.2 (by
    have:2 ^ m<=2 ^ bB!:=_B (by decide) (by lia);simpa using (Int.ofNat_le.mpr i7!))) B.1 B.2];rfl)) (by simp[enP,cap];lia);rw[zgo hb Q hQ]at c;rw[xS,zO,c];rfl
end
theorem z6X{α:cd!} (g f:α->D)(ev:α->Ev)(l:eV!) (hi:fi ρ s=k! (mB!,[]))(hg:∀a∈l,fg (g a) (vd mp ρ) s=k! (ev a))(he:∀a∈l,fe (ev a) s=k! (f a))(hl:lm!<=cap)(hf:c0! mA!): z19 fi mp fg zZ fe ρ s=gG! (s++[mA!]):=by
 rw[zdj,uK,hi,Rb,z2e g f (λ_=>c!) l [] (by
  intro a ha;simp only[hg a ha,Rb];simp[he a ha]) (by simpa using hl),(_bH.mpr (by simp))];simp only[_as,Rb];rw[_h hf]
theorem zdd(xs:C!)(k:Nat):cutD xs a! (b! (h! k))=mV! k:=by simpa[dSl] using (z2T xs k [])
theorem z5k(xs:C!)(k:Nat):cutD xs (b! (h! k)) a!=k3! k:=by simpa[dSl] using (z1H xs k [])
theorem zaz(hb:b<line.length)(q:Int):xi b line q=line.set b (line.getD b 0+q):=by
 unfold xi;rw[_bT,_h hb];simp
noncomputable def xq(n i:Nat):g!:=aS! n (λc=>af! i c 1 0)
theorem zl5(hx:E! ρ k dR!)(hl:Dd.listOf s x=b! xs)(h:x=cD!\/∃l,x=ea!)(hc:v!<=4):eOp xj (eG! (zd k) ak!) (ge! (zd k) ak!) ρ s=bw! (rot xs):=by
 rw[yx,zbH,vr hx,Rb,z1D,z00];simp only[Rb,qE];rw[(show dSl x (b! 1) a! s=bw! (k3! 1) from by
  rcases h with rfl | ⟨l,rfl⟩;·exact _aK (λz=>et! (D.lst z) s) (z5k xs 1)
  ·simp only[dSl,hl];exact _aK (λz=>et! (D.lst z) s) (z5k xs 1)),Rb,zbH,vr hx];simp only[Rb,qE,z1D,z00];rw[(show dSl x a! (b! 1) s=bw! (mV! 1) from by
  rcases h with rfl | ⟨l,rfl⟩;·exact _aK (λz=>et! (D.lst z) s) (zdd xs 1)
  ·simp only[dSl,hl];exact _aK (λz=>et! (D.lst z) s) (zdd xs 1)),Rb,zdC,_h (by simp[cap];lia)];rfl
section
variable {n m:Nat}{v:g!}{d e:D}{r:Rl}(h:eJ!)(E:RD e r){a0 a1 a2 a3 a4 a5 a6 a7 a8 a9 a10 a11 a12:q6!}{b:Nat}(hb:b<J!){Q:g!}(hQ:po!=J!)
include h E hb hQ
theorem zsb{S:Sto} {L i:Nat} (hL:E! S L (iL Q)) (hi:eZ!) (A:C!) (hA:qG!<e3!) (J:Sto) (dg:fg!): ∃J' dW,(zA wJ (be! wQ wM wR)) (EV A! a1 bu! a3 a4 a7! a6 a7 gQ! (e! i) a10 jf! dg) (S++A::J) = F! (EV A! a1 bu! a3 a4 a7! a6 a7 gQ! (e! i) a10 jf! dW) (S++(A++[rD (gO! (xi b fl! (iI! i)))])::J'):=by
 have l4:=h.toLot.le4;have ln:r! fl!=J!:=by simp[xq]
 have em:(aS! J! (λc:Nat=>aJ! (af! i c 1 0)))=iL fl!:=by simp[xq,_P]
 have c:=z6X (s:=S++A::J) (mp:=au! 9) (fg:=cc!) (fe:=a0! zdf (go! n! o!)) (λc:Nat=>aJ! (Z! c)) (λc:Nat=>aJ! (af! i c 1 0)) (λc=>[e! i,e! (Z! c)]) pw! (jk (n:=v.length) (ρ:=EV A! a1 bu! a3 a4 a7! a6 a7 gQ! (e! i) a10 jf! dg) (ar:=co! 2) (by lia) (by rfl)) (λc _=>by rfl) (λc _=>by
   by_cases q:i=c;·simp[zdf,q]
   ·have:¬ h! i=h! c:=by lia
    simp[zdf,q,this]) (by simp[cap];lia) (by rw[em];exact yH _);rw[em]at c;have gF:wJ (EV A! a1 bu! a3 a4 a7! a6 a7 gQ! (e! i) a10 jf! dg) (S++A::J) = F! (EV A! a1 bu! a3 a4 a7! a6 a7 gQ! (e! i) a10 jf! (qW! (r! (S++A::J)))) ((S++A::J)++bF! fl!):=by
  rw[wJ,zO,c];rfl
 have aT:E! ((S++A::J)++bF! fl!) (r! (S++A::J)) (iL fl!):=by simp
 have aL:E! ((S++A::J)++bF! fl!) L (iL Q):=by rw[_bY,_G (cE! hL),hL]
 have i1:=zan (i:=h! b) (d:=d! (bg! fl! b)) aT (by lia) (by simp[_n,ln,hb]);have i2:=zan (i:=h! i) (d:=d! (iI! i)) aL (by lia) (by simp[_n,hQ,hi]);have iR:((S++A::J)++bF! fl!).set (r! (S++A::J)) (iL ((fl!).set (h! b).toNat (bg! fl! b+iI! i)))=(S++A::J)++bF! (xi b fl! (iI! i)):=by
  rw[zaz (by rw[ln];exact hb)];simp
 have mq:wQ (EV A! a1 bu! a3 a4 a7! a6 a7 gQ! (e! i) a10 jf! (qW! (r! (S++A::J)))) ((S++A::J)++bF! fl!) = F! (EV A! a1 bu! a3 a4 a7! a6 a7 gQ! (e! i) a10 jf! (qW! (r! (S++A::J)))) ((S++A::J)++bF! (xi b fl! (iI! i))):=by rw[wQ,z5y (s1:=(S++A::J)++bF! fl!) (s2:=(S++A::J)++bF! fl!) (L:=r! (S++A::J)) (xs:=fl!) (i:=h! b) (x:=bg! fl! b+iI! i) (by
   rw[yx,op2 (x:=.loc (r! (S++A::J))) (y:=eE!) x! x!,i1,Rb,op2 (x:=.loc L) (y:=ac!) x! x!,i2,Rb];rfl) x! x! aT (by lia) (by lia),iR]
 have ph:r! (iL (xi b fl! (iI! i)))<=4:=by
  rw[zaz (by rw[ln];exact hb)];simp[ln];lia
 generalize hW:iL (xi b fl! (iI! i))=W at *;have ot:=E.tu ((S++A::J)++[W]);have aA:E! ((S++A::J)++[W]) qQ! A:=by simp
 have fin:∀(x:D) (row:List Int),x.flat=c!->x=rD row->∀ ρ:Ev,E! ρ 11 jf!->(∃y,E! ρ 12 (b! y)/\zW [y] ((S++A::J)++[W])=.ok x ((S++A::J)++[W]))->wR ρ ((S++A::J)++[W])=F! ρ (S++(A++[x])::(J++[W])):=λx row fx hx ρ gq ⟨y,pj,g⟩=>by
  rw[wR,zmq (s2:=(S++A::J)++[W]) (L:=S.length) (xs:=A) (x:=x) (vr gq) (by rw[xh (vr pj)];exact g) aA hA fx];have iS:((S++A::J)++[W]).set qQ! (A++[x])=S++(A++[x])::(J++[W]):=by simp
  rw[iS]
 by_cases q:r=.tu
 ·refine⟨J++[W],L! (rot W),?_⟩;rw[zn gF,zn mq,zn (by
   rw[wM,zeO (by rw[qM,op2 (x:=e) (y:=ax! fT!) x! rfl,ot];simp[q]),z1s,zO,zl5 (x:=.loc (r! (S++A::J))) (xs:=W) (k:=12) rfl (by simp[Dd.listOf]) (d8! _ rfl) ph];rfl)];have e1:rD (gO! (xi b fl! (iI! i)))=p! (rot W):=by
   rw[q,za7,<- hW];simp[rot,_ce,_aS]
  rw[e1];exact fin (p! (rot W)) _ (by rw[<- e1];exact yH _) e1.symm _ rfl (aA! _ (z8j _ _))
 ·refine⟨J++[W],qW! (r! (S++A::J)),?_⟩;rw[zn gF,zn mq,zn (by
   rw[wM,zij (by rw[qM,op2 (x:=e) (y:=ax! fT!) x! rfl,ot];simp[q])];rfl)];have e1:rD (gO! (xi b fl! (iI! i)))=p! W:=by rw[z88 q,<- hW]
  rw[e1];exact fin (p! W) _ (by rw[<- e1];exact yH _) (by rw[<- e1]) _ rfl (aA! _ (by simp[zW,zV]))
end
noncomputable def zcS(r:Rl)(b n:Nat)(Q:g!)(i:Nat):D:=rD (gO! (xi b (xq n i) (iI! i)))
theorem zhj(r:Rl)(b:Nat)(Q:g!):tD (z79 r b Q)=p! (aS! po! (zcS r b po! Q)):=by
 show gv! _=gv! _;congr 1;apply _aQ;·simp[z79,one]
 ·intro i h1 h2;simp[z79,one,zcS,xq,(by simpa using h2)]
section
variable {n m:Nat}{v:g!}{d e:D}{r:Rl}(h:eJ!)(E:RD e r){a0 a1 a2 a3 a4 a5 a6 a7 a8 a9 a10 a11 a12:q6!}{b:Nat}(hb:b<J!){Q:g!}(hQ:po!=J!)
include h E hb hQ
theorem zqd{S:Sto} {L:Nat} {all:C!} (hL:E! S L (iL Q)):∀(k j:Nat) (J:Sto) (p9 dg:Option D),j+k=J!-> ∃J' dU dW,yL [] all (d5! (yh 9 d ρ s) ((zA wJ (be! wQ wM wR)) ρ' s')) ((n2! j k).map λi=>aJ! (Z! i)) (EV A! a1 bu! a3 a4 a7! a6 a7 gQ! p9 a10 jf! dg) (S++(aS! j (jR! r b Q))::J) = F! (EV A! a1 bu! a3 a4 a7! a6 a7 gQ! dU a10 jf! dW) (S++(aS! (j+k) (jR! r b Q))::J')
 | 0,j,J,p9,dg,_=>⟨J,p9,dg,by simp[yL,okG]⟩ | k+1,j,J,p9,dg,hj=>by
  have l4:=h.toLot.le4;obtain⟨J1,gG,e1⟩:=zsb (a1:=a1) (a3:=a3) (a4:=a4) (a6:=a6) (a7:=a7) (a10:=a10) h E hb hQ hL (i:=j) (by lia) (aS! j (jR! r b Q)) (by simp;lia) J dg;obtain⟨J2,q9,pq,e2⟩:=zqd hL k (j+1) J1 aV! gG (by lia);refine⟨J2,q9,pq,?_⟩;rw[(show aS! j (jR! r b Q)++[rD (gO! (xi b (xq J! j) (iI! j)))]=aS! (j+1) (jR! r b Q) from by
   rw[List.range_succ,_ci];rfl)]at e1;rw[List.range'_succ,_p,yL,_h (by intro p hp;cases hp),ve,Rb];simp only[_F,_C];rw[e1,Rb];simp only;rw[e2,show j+1+k=j+(k+1) by lia]
theorem zrY(D:LD d v) (hm:m<=hA!) {ps:jl!} (dR:∀i∈ps,eZ!) (hq:∀q∈Q,0<=q/\q<2 ^ m) (eQ:(ai! (0<fm!) (zfW v fm! ps (ls! 0)) (ls! 0))=Q) (s:Sto): ∃s',(be! xV ux (dw! xS wP xU xP xW)) (EV A! i! bu! a3 a4 a7! a6 lQ! a8 a9 a10 a11 a12) s = bR! (.rt (p! [rD (gO! (fD! Q b)),tD (z79 r b Q)]))/\s'.take cf!=s:=by
 have l4:=h.toLot.le4;have f13:=zsx (a0:=A!) (a1:=i!) (a3:=a3) (a4:=a4) (a5:=e! (h! b)) (a6:=a6) (a7:=lQ!) (a8:=a8) (a9:=a9) (a10:=a10) (a11:=a11) (a12:=a12) h s;obtain⟨p9,f14⟩:=zmS (a0:=A!) (a2:=eY! J!) (a3:=a3) (a4:=a4) (a6:=a6) (a7:=lQ!) (a10:=a10) (a11:=a11) (a12:=a12) h D hm hb (S0:=s++[[kB!]]) (all:=nL ps) ps (ls! 0) a9 dR (by simp);rw[eQ]at f14;generalize hS:(s++[[kB!]])++bF! Q=S at *;have hL:E! S (r! (s++[[kB!]])) (iL Q):=by rw[<- hS];simp
 have ci:s <+: S:=by
  rw[<- hS,_bY];exact List.prefix_append _ _
 generalize hLL:r! (s++[[kB!]])=L at *;have f17:=zsJ (a0:=A!) (a2:=eY! J!) (a3:=a3) (a4:=a4) (a6:=a6) (a7:=lQ!) (a9:=p9) (a10:=a10) (a11:=a11) (a12:=a12) h D hm S hb hL hQ hq;have f18:wP (EV A! i! (eY! J!) a3 a4 (eY! b) a6 lQ! gQ! p9 (L! (iL (fD! Q b))) a11 a12) S = F! (EV A! i! (eY! J!) a3 a4 (eY! b) a6 lQ! gQ! p9 (L! (iL (fD! Q b))) jf! a12) (S++(aS! 0 (jR! r b Q))::[]):=by rfl
 obtain⟨J,q9,gG,mw⟩:=zqd (a1:=i!) (a3:=a3) (a4:=a4) (a6:=a6) (a7:=lQ!) (a10:=L! (iL (fD! Q b))) h E hb hQ (all:=aS! J! (λi:Nat=>jI! (i:Nat))) hL v.length 0 [] p9 a12 (by lia);have mz:xU (EV A! i! (eY! J!) a3 a4 (eY! b) a6 lQ! gQ! p9 (L! (iL (fD! Q b))) jf! a12) (S++(aS! 0 (jR! r b Q))::[]) = F! (EV A! i! (eY! J!) a3 a4 (eY! b) a6 lQ! gQ! q9 (L! (iL (fD! Q b))) jf! gG) (S++(aS! (0+J!) (jR! r b Q))::J):=by
  rw[xU,qJ,jk (n:=v.length) (s1:=S++(aS! 0 (jR! r b Q))::[]) (by lia) (by rfl)];rw[List.range_eq_range']at mw ⊢;exact mw
 rw[_ap]at mz;have aM:E! (S++(aS! J! (jR! r b Q))::J) qQ! (aS! J! (jR! r b Q)):=by simp
 refine⟨S++(aS! J! (jR! r b Q))::J,?_,?_⟩
 ·generalize hT:S++(aS! J! (jR! r b Q))::J=T at *;have ot:=E.tu T;have fin:∀w:List Int,xW (EV A! i! bu! a3 a4 a7! a6 lQ! gQ! q9 (L! (iL w)) jf! gG) T=.ok (.rt (p! [rD w,tD (z79 r b Q)])) T:=λw=>by
   have e2:zW [.loc qQ!] T=.ok (tD (z79 r b Q)) T:=by
    rw[zhj,hQ];simp only[zW,zV,aM]
   rw[xW,yo,z1V,zy,xh (x:=eF! w) x!,(z8j _ _),Rb,zy,xh (x:=.loc qQ!) x!,e2,Rb,zM];simp only[Rb];rw[_h (by simp[cap])];rfl
  rw[zn f13,zn (by exact f14),zn f17,zn f18,zn mz];have lw:r! (fD! Q b)=J!:=by simp[left,hQ]
  by_cases q:r=.tu
  ·rw[zn (by
    have e3:rot (iL (fD! Q b))=iL (gO! (fD! Q b)):=by
     rw[q,za7];simp[rot,_ce,_aS]
    rw[xP,zeO (by rw[qM,op2 (x:=e) (y:=ax! fT!) x! rfl,ot];simp[q]),z1i,zO,zl5 (x:=eF! (fD! Q b)) (xs:=iL (fD! Q b)) (k:=10) rfl (by rfl) cT! (by simp[lw];lia),e3];rfl)];exact fin _
  ·rw[zn (by
    rw[xP,zij (by rw[qM,op2 (x:=e) (y:=ax! fT!) x! rfl,ot];simp[q])];rfl),z88 q];exact fin _
 ·obtain⟨t,rfl⟩:=ci;simp
end
theorem zj6(w:g!)(T:Tb):(gv! [rD w,tD T]).flat=c!:=by
 have h1:(rD w).flat=c!:=yH _;show ((rD w).flat&&((tD T).flat&&r1! []))=c!;rw[h1,(show (tD T).flat=c! from by
  show c0! nh!;induction T with
  | nil=>rfl | cons r T ih=>
   show ((rD r).flat&&r1! nh!)=c!;rw[ih,Bool.and_true];exact yH r)];rfl
section
variable {n m:Nat}{v:g!}(r:Rl)(h:eJ!)(he:ed!)(hm:m<=hA!)
include h he hm
theorem zlR(s:Sto):qw [by!,aw!] s=bf! [rD dl!,tD fq!]:=by
 have key:hz! (LD d v->RD e r->qw [e,d] s=bf! [rD dl!,tD fq!]):=λd e D E=>by
  have l4:=h.toLot.le4;have st:zx [fv!,dL!,fu!,"_law_order",na!,oa!,qD!,iz!,qE!,eg!,ob!,"_law_lines",fX!] [e,d]=EV A! i! a! a! a! a! a! a! a! a! a! a! a!:=rfl;have f1:=zuf (a0:=A!) (a2:=none) (a3:=none) (a4:=none) (a5:=none) (a6:=none) (a7:=none) (a8:=none) (a9:=none) (a10:=none) (a11:=none) (a12:=none) h.toLot D s;obtain⟨qs,f2,gH,pw⟩:=ziX dt! he (EV A! i! bu! a! a! a! a! a! a! a! a! a! a!) s (by rw[<- D.eq];rfl);have pr:uV (EV A! i! bu! a! a! a! a! a! a! a! a! a! a!) s=a6! (EV A! i! bu! dP! a! a! a! a! a! a! a! a! a!):=f2;have ql:jH!<=4:=by
   have nd:qs.Nodup:=pw.imp λ{a b} q z=>by rw[z,zg4]at q;cases q
   have h2:=zkr dt! he;have:jH!<=r! (zaw v):=List.Nodup.length_le_of_subset nd λa ha=>(gH a).mp ha;lia
  have f3:=zuv (a0:=A!) (a3:=dP!) (a4:=none) (a5:=none) (a6:=none) (a7:=none) (a8:=none) (a9:=none) (a10:=none) (a11:=none) (a12:=none) h.toLot D s;obtain⟨jI,eh⟩:=zdH fw! h.toLot.nzne gH pw;have f4:=zuu (v:=v) (a1:=i!) (a2:=bu!) (a4:=dj!) (a5:=none) (a6:=none) (a7:=none) (a8:=none) (a9:=none) (a10:=none) (a11:=none) (a12:=none) s E eh;have dl:=uH r dt! he;have qb:=zoq r h he;have fin:∀(a6:Option Dd.D) (ps:List Nat),(∀i∈ps,eZ!)->(ai! (0<bp! aH!) (zfW v (bp! aH!) ps (ls! 0)) (ls! 0))=hb!-> (be! wv wy (dw! ui xY xV ux (dw! xS wP xU xP xW))) (EV A! i! bu! dP! dj! (b! (zkA v r)) a! a! a! a! a! a! a!) s = (be! xV ux (dw! xS wP xU xP xW)) (EV A! i! bu! dP! dj! (e! (Z! aH!)) a6 lQ! a! a! a! a! a!) s-> qw [e,d] s=bf! [rD dl!,tD fq!]:=λa6 ps dR eQ eF=>by
   obtain⟨s',et,tk⟩:=zrY (a3:=dP!) (a4:=dj!) (a6:=a6) (a8:=none) (a9:=none) (a10:=none) (a11:=none) (a12:=none) h E dl.lt (Q:=hb!) (yZ _ _) D hm dR qb eQ s;simp only[qw,z69,Mof,z4d,st,_j,_l,_x];rw[zn f1,zn pr,zn f3,zn f4,eF,et];simp only;rw[z0U (zj6 _ _),tk];rfl
  have ol:=E.le s;have on:=E.nx s;have oi:=E.in_ s;have iV:r≠.le->∀x,wv (EV A! i! bu! dP! dj! x a! a! a! a! a! a! a!) s=a6! (EV A! i! bu! dP! dj! x a! a! a! a! a! a! a!):=λq x=>by
   rw[wv,zij (by rw[qM,op2 (x:=e) (y:=kH!) x! rfl,ol];simp[q])];rfl
  have iX:r≠.nx->∀x,wy (EV A! i! bu! dP! dj! x a! a! a! a! a! a! a!) s=a6! (EV A! i! bu! dP! dj! x a! a! a! a! a! a! a!):=λq x=>by
   rw[wy,zij (by rw[qM,op2 (x:=e) (y:=js!) x! rfl,on];simp[q])];rfl
  have dE:∀(x6:Option Dd.D) (b:Nat) (z:Option Dd.D),(r=.nx\/r=.le)->xY (EV A! i! bu! dP! dj! (e! (Z! b)) x6 z a! a! a! a! a!) s = a6! (EV A! i! bu! dP! dj! (e! (Z! b)) x6 (L! (nL [a8!])) a! a! a! a! a!):=λx6 b z q=>by
   rw[xY,zeO (by rw[qM,op2 (x:=e) (y:=p! [js!,kH!]) x! rfl,oi];simp[q]),z1n,zO,z6p,zy,vr (d:=d! a8!) rfl];simp only[Rb,zM];rw[_h (by simp[cap])];rfl
  have fV:∀(x6:Option Dd.D) (b:Nat) (z:Option Dd.D),¬ (r=.nx\/r=.le)->xY (EV A! i! bu! dP! dj! (e! (Z! b)) x6 z a! a! a! a! a!) s = a6! (EV A! i! bu! dP! dj! (e! (Z! b)) x6 z a! a! a! a! a!):=λx6 b z q=>by
   rw[xY,zij (by rw[qM,op2 (x:=e) (y:=p! [js!,kH!]) x! rfl,oi];simp[q])];rfl
  have bZ:=λ(x6:Option Dd.D) (b:Nat)=>zs1 (a0:=A!) (a1:=i!) (a3:=dP!) (a4:=dj!) (a6:=x6) (a7:=none) (a8:=none) (a9:=none) (a10:=none) (a11:=none) (a12:=none) h.toLot s b;have mE:=(zcy h.toLot.ne).1;have fW:a4! (l9!).2->0<bp! aH!:=λq=>dl.pos.resolve_left q;cases hr:r with
  | nx=>
   subst hr;have p0:=fW (by simp[deal]);refine fin (e! g6!) [a8!] (by simpa using mE) (by rw[_h p0,z0Z];rfl) ?_;have f7:wy (EV A! i! bu! dP! dj! (b! (zkA v .nx)) a! a! a! a! a! a! a!) s=a6! (EV A! i! bu! dP! dj! (e! (Z! (nc! .nx).1)) (e! g6!) a! a! a! a! a! a!):=by
    rw[wy,zeO (by rw[qM,op2 (x:=e) (y:=js!) x! rfl,on];rfl),zn (zuJ dt! s he gH pw ql)];exact zu8 dt! s he D
   rw[zn (iV (by decide) _),zn f7,zn (bZ _ _),zn (dE _ _ _ cT!)] | le=>
   subst hr;have p0:=fW (by simp[deal]);refine fin a! [a8!] (by simpa using mE) (by rw[_h p0,z0Z];rfl) ?_;have f5:wv (EV A! i! bu! dP! dj! (b! (zkA v .le)) a! a! a! a! a! a! a!) s=a6! (EV A! i! bu! dP! dj! (e! (Z! (nc! .le).1)) a! a! a! a! a! a! a!):=by
    rw[wv,zeO (by rw[qM,op2 (x:=e) (y:=kH!) x! rfl,ol];rfl)];exact zuB dt! s he gH pw ql
   rw[zn f5,zn (iX (by decide) _),zn (bZ _ _),zn (dE _ _ _ (R! rfl))] | al=>
   subst hr;have p0:0<bp! (nc! .al).1:=by
    obtain⟨_,l2,l3⟩:=zcx h.toLot.nzne;have:=Pm.vS fw! db!;show 0<bp! db!;lia
   refine fin a! (wG v db!) (e8! (vX.mp hi).1) (by rw[_h p0,z0Z];rfl) ?_;rw[zn (iV (by decide) _),zn (iX (by decide) _),show zkA v .al=jI! db! from rfl,zn (bZ a! db!),zn (fV _ _ _ (by decide))];rfl | tu=>
   subst hr;refine fin a! (wG v 0) (e8! (vX.mp hi).1) ?_ ?_
   ·by_cases q:fp!=0
    ·have e2:mI!=(0,[]):=by
      show (0,af! fp! 0 [] (wG v 0))=_;rw[_h q]
     rw[e2,_q (by show ¬ 0<fp!;lia),zga]
    ·have e2:mI!=(0,wG v 0):=by
      show (0,af! fp! 0 [] (wG v 0))=_;rw[_q q]
     have:=Pm.vS fw! 0;rw[e2,_h (by show 0<fp!;lia),z0Z]
   rw[zn (iV (by decide) _),zn (iX (by decide) _),show zkA v .tu=jI! (Z! 0) from rfl,zn (bZ a! 0),zn (fV _ _ _ (by decide))];rfl
 exact key _ _ (LD.of dt!) (RD.of r)
end
end Po
namespace Pn
open L2 Dd Pm Pg
theorem z41:LeM ua ub:=LeM.mof (sj! LeS.rfl)
theorem zet:LeM zY zB:=ra! (rH! z41) (rH! z1F)
theorem zdQ{M:Mir} (h:aK!=k! x)(hx:M [x] s=ec!):zg M (bC! f) ρ s=ec!:=by rw[xh h,hx]
theorem z5e{M:Mir} (h:aK!=k! x)(h2:g ρ s=k! y)(hx:M [x,y] s=ec!):zg M (aO! f g) ρ s=ec!:=by rw[pm! h h2,hx]
section
variable {d y:D}{s:Sto}
theorem z7I(h:vt [d] s=cS!):ub [d] s=.ex gS! s:=by
 have st:zx c3! [d]=[i!]:=rfl;simp only[ub,kT,z2E,st,_j,_l,_x,z1l,z7r,z8C,qM,xh (x:=d) (vr (ρ:=[i!]) (i:=0) (s:=s) rfl),h,Rb];rfl
theorem zfx(h:vt [d] s=cS!):zB [d,y] s=.ex gS! s:=by
 simp only[zB,kT,wm,st,_j,_l,_x];rw[zh1 (c:=gS!) (s':=s) (by exact zcJ (zdQ (x:=d) x! (z7I h)))]
theorem zk0(h:yt [y] s=cS!):zB [by!,y] s=.ex gR! s:=by
 have k:=z41.ok (z60 r s);exact (λd k=>by
  simp only[zB,kT,wm,st,_j,_l,_x];rw[zn (ρ':=[i!,b! y]) (s':=s) (by rw[vI,z0G,xh (x:=d) x!,k];rfl),vN,zcJ (zdQ (x:=y) x! (z2s h))]:∀d:D,ub [d] s=eT!->zB [d,y] s=.ex gR! s) _ k
end
end Pn
namespace Po
open L2 Dd Pm Pg Pn
theorem zv2(ρ:Ev)(s:Sto):jB (bC! (O! 2)) ρ s=k! (([0,1]:g!).map o4!,[]):=by rfl
theorem zjj(k:Nat) (h:dm! J!):uE (k+1) aw!:=by
 refine⟨by simp[cap];lia,ap! ?_⟩;obtain⟨y,_,rfl⟩:=jY!;cases k<;>trivial
theorem twice(x:Str)(ρ:Ev)(s:Sto):eOp zqx (kY (bC! (bM! x))) (O! 2) ρ s=bw! [bQ!,bQ!]:=by rfl
theorem zoz(hx:PyData.strOk x=c!)(s:Sto):dNe (ab! [bQ!,bQ!]) (ab! [bQ!,bQ!]) s=cS!:= ne_self (k:=2) (by simp[okD,hx]) (by decide) s
theorem zjy(h:a2!) (s:Sto):xw gn! s=aM! nk!:=by
 have l4:=h.le4;exact (hY! (by
  have st:zx [dL!] [d]=[i!]:=rfl;have c:=wb (s:=s) (ρ:=[i!]) (fi:=cF!) (mp:=[a!]) (fg:=yh 0) (ft:=gA! dGt n! D!) (fe:=n!) D.int D.int (λx=>dO! 0 x) (λx=>[e! x]) v (z2C (by rw[show gv! (v.map o4!)=d from hd.symm];exact x!)) (λx _=>by rfl) (λx _=>by rfl) (λx _ _=>by rfl) (by simp[cap];lia);have e:v.filter (λx=>dO! 0 x)=nz v:=by
   refine List.filter_congr (ap! ?_);have:=h.nn x hx;by_cases q:x=0;·simp[q]
   ·simp[q,(show 0<x from by lia)]
  rw[e]at c;have lb:bi! (h! (g9! v)=1)=nk!:=by
   unfold ended;by_cases e:g9! v=1;·simp[e]
   ·simp[e,(show ¬ h! (g9! v)=1 from by lia)]
  simp only[xw,Mof,z2D,st,_j,_l,_x,z1p,yo,yx,xh c,yM,zV,Rb,z00,zcA,_W,lb]):∀d:D,d=aw!->xw [d] s=aM! nk!) _ rfl
noncomputable def rls:dZ! Rl:=[.al,.le,.nx,.tu]
theorem ziN(s:Sto):ja [] s=bw! (rls.map λr=>D.str (nmR r)):=by rfl
open PySem.Builtin.Str
noncomputable def noR(r:Rl):C!:=[ax! (Txt.upper (nmR r)),ax! (nmR r++" "),ax! (q3! (nmR r) (b! 1)),ax! (nmR r++"s"),ax! "",at!,d! 3,p! [by!],ab! [by!],eA!,.dct]
theorem zkS(h:d∈noR r)(s:Sto):vt [d] s=cS!:=by
 simp only[noR,_w,_aI,_ch]at h;cases r<;>rcases h with rfl | rfl | rfl | rfl | rfl | rfl | rfl | rfl | rfl | rfl | rfl<;>kernel_rfl
theorem zgm(r:Rl) (h:Pot s l):∃d s',ut [ea!,by!] s=bR! d/\d∈noR r/\qQ s s' l:=by
 have st:zx [e9!,fv!,iz!] [ea!,by!]=[M!,b3!,a!]:=rfl;have q1:kK [M!,b3!,a!] s=a6! [M!,b3!,L! (noR r)]:=by cases r<;>kernel_rfl
 obtain⟨x,s',e,a,b,dr⟩:=vB (f:=n!) (g:=O! 11) (far:=11) (ρ:=[M!,b3!,L! (noR r)]) h (by decide) (kA (by decide)) (by rfl) (by rfl);have hr:n4!<r! (noR r):=by simp[noR];omega
 have ix:=wZ (xs:=noR r) (d:=(noR r)[x.toNat]) (s:=s') a (by simp[hr]);refine⟨(noR r)[x.toNat],s',?_,_K hr,dr⟩;simp only[ut,Mof,z0d,st,_j,_l,_x];rw[zn q1,kP,yo,yx];simp only[yf,_d,_c,Rb];rw[e,Rb,ix,Rb]
theorem zoX(h:Pot s l) (hf:aK!=k! ea!):∃r s',eOp dIx (zg ja zm) (zg zC (aO! f (O! 4))) ρ s=bR! by!/\qQ s s' l:=by
 obtain⟨x,s',e,a,b,dr⟩:=vB (f:=f) (g:=O! 4) (far:=4) (ρ:=ρ) h (by decide) (kA (by decide)) hf (by rfl);have hr:n4!<rls.length:=by simp[rls];omega
 refine⟨rls[x.toNat],s',?_,dr⟩;have ix:=wZ (xs:=rls.map λr=>D.str (nmR r)) (d:=ax! (nmR rls[x.toNat])) (s:=s') a (by simp[hr]);rw[yx,yg,zM,Rb,ziN,Rb,e,Rb,ix]
end Po
namespace Po
open L2 Dd Pm Pg Pn
theorem zia{α:cd!} (og:okG G all s)(g f:α->D):∀(l:List α)(acc:List D),(∀x∈l,body (g x) s=k! (b! (f x)))->jG!+lm!<=cap->qK G all dI! mB! acc s=k! (acc++mA!)
 | [],acc,_,_=>by simp[qK,og] | x::xs,acc,hb,hl=>by
  rw[_p,qK,_h og,hb x (by simp),Rb];simp only[_h (show jG!<cap from by simp at hl;lia),(zia (all:=all) og g f xs (acc++[f x]) (cO! (hb y (by simp[hy]))) (by simp at hl ⊢;lia))];simp
theorem zgg{α:cd!} (g f:α->D)(ev:α->Ev)(l:eV!) (hi:fi ρ s=k! (mB!,G))(og:okG G mB! s)(hg:∀a∈l,fg (g a) (vd mp ρ) s=k! (ev a))(he:∀a∈l,fe (ev a) s=k! (f a))(hl:lm!<=cap): zv fi mp fg zZ fe ρ s=bw! mA!:=by
 rw[uw,uK,hi,Rb,zia og g f l [] (by
  intro a ha;simp only[hg a ha,Rb];simp[he a ha]) (by simpa using hl)];rfl
section
variable {n m:Nat}{r:Rl}{v:g!}{ls:fC!}
noncomputable abbrev RV(d e:D)(L:Nat)(a4 a5:fg!):Ev:=[i!,A!,gQ!,qW! (L+1),a4,a5]
theorem zhW{s:Sto} : (s++[x,y]).set cf! z=s++[z,y]/\(s++[x,y]).set (cf!+1) z=s++[x,z]:=by
 constructor;·simp
 ·simp
theorem z9e{s:Sto} : E! (s++[x,y]) cf! x/\E! (s++[x,y]) (cf!+1) y:=by
 constructor;·simp
 ·simp
theorem zh9(hd:d=by!) (hm:m<=hA!) (s:Sto) (Rn:fP! c):∀(pre:List (List Int)) (pt:List Tb) (a4 a5:Option D),oo! m c->pre.length+pj!<=50000->pt.length+pj!<=50000-> ∃b4 b5,wT (fE! (a0! xw (fb! 2 dQ!))) (be! jg qP jf) (pj!+1) (kE! d e a4 a5) (s++[dY! [c],h6!])=F! (kE! d e b4 b5) (s++[dY! ls,fA! (pt++jg!)]):=by
 have de:∀(pre:List (List Int)) (pt:List Tb) (c:List Int) (a4 a5:Option D),oo! m c->eOp dIx I! dQ! (kE! d e a4 a5) (s++[dY! [c],h6!])=.ok (rD c) (s++[dY! [c],h6!])/\z47 (tOf (a0! xw (fb! 2 dQ!))) (kE! d e a4 a5) (s++[dY! [c],h6!])=.ok (! nb! c) (s++[dY! [c],h6!]):=λpre pt c a4 a5 h=>by
  have ix:=z6R (x:=l7!) (d:=rD c) (xs:=pre.map rD) (s:=s++[dY! [c],h6!]) (by rw[zV];simp);have hE:=zjy dt! (s++[dY! [c],h6!]);generalize (s++[dY! [c],h6!])=S at *;have e1:eOp dIx I! dQ! (kE! d e a4 a5) S=.ok (rD c) S:=by rw[op2 (x:=l7!) (y:=d! (-1)) x! (by rfl),ix]
  refine as! e1 ?_;rw[z8C,z2j (b:=nb! c) (by rw[xh e1,hE]),Rb]
 induction Rn with
 | @done v hend=>
  intro pre pt a4 a5 h hl gu;refine aQ! a4 a5 ?_;rw[wT,(de pre pt v a4 a5 h).2,hend];simp[zK] | @step v ls hend Rn ih=>
  intro pre pt a4 a5 h hl gu;obtain⟨b4,b5,ih⟩:=ih (pre++[v]) (pt++[fq!]) (bX! dl!) kc! (oQ! hend) (by simp at hl ⊢;lia) (by simp at gu ⊢;lia);rw[_j,wT,(de pre pt v a4 a5 h).2,hend,Rb];have mF:=zlR r h hend hm (s++[dY! [v],h6!]);rw[<- hd]at mF;have f4:jg (kE! d e a4 a5) (s++[dY! [v],h6!])=F! (kE! d e (bX! dl!) kc!) (s++[dY! [v],h6!]):=by
   rw[jg,zhJ,call2 (x:=d) (y:=aw!) x! ((de pre pt v a4 a5 h).1),mF,Rb];rfl
  have f5:qP (kE! d e (bX! dl!) kc!) (s++[dY! [v],h6!])=F! (kE! d e (bX! dl!) kc!) (s++[fc! (pre++[v]++[dl!]),h6!]):=by
   have fl:(rD dl!).flat=c!:=yH _;rw[qP,z0G,z8y];simp only[yf,_c,_d,Rb,z9e.1,_h (show (rD dl!).flat=c!/\r! (dY! [v])<cap from as! fl (by simp[cap]at hl ⊢;lia)),zhW.1];simp
  have f6:jf (kE! d e (bX! dl!) kc!) (s++[fc! (pre++[v]++[dl!]),h6!])=F! (kE! d e (bX! dl!) kc!) (s++[fc! (pre++[v]++[dl!]),fA! (pt++[fq!])]):=by
   have ln:r! h6!<cap:=by simp[cap]at gu ⊢;lia
   rw[jf,z0G,z8y];simp only[yf,_c,_d,Rb,z9e.2,_h (show (tD fq!).flat=c!/\r! h6!<cap from as! (z8k _) ln),zhW.2];simp
  rw[zn f4,zn f5,f6,Rb];simp only;rw[ih,Rn.tabs_cons];simp
theorem zqr(r:Rl)(h:eJ!)(Rn:fP! v)(hm:m<=hA!)(hl:oO!)(s:Sto):z0P [by!,aw!] s=.ok (p! [l7!,.loc (cf!+1)]) (s++eo! eW!):=by
 have key:hz! (d=by!->e=aw!->z0P [d,e] s=.ok (p! [l7!,.loc (cf!+1)]) (s++eo! eW!)):=qO! (by
  have st:zx [fv!,dL!,pe!,pf!,ob!,i9!] [d,e]=[i!,A!,a!,a!,a!,a!]:=rfl;have f1:z09 [i!,A!,a!,a!,a!,a!] s=F! [i!,A!,N!,a!,a!,a!] (s++[[e]]):=by
   simp only[z09,zO,z8r,zy,zM,yf,_d,_c,Rb];rw[b7! (by simp[cap]) (by simp[flC,flN,(show e.flat=c! from by rw[he];exact (yH _))])];rfl
  have f2:z0l [i!,A!,N!,a!,a!,a!] (s++[[e]])=F! (kE! d e a! a!) (s++[[e],[]]):=by
   simp only[z0l,zO,z8r,zM,Rb];rw[b7! (by decide) (by rfl)];simp[RV]
  obtain⟨b4,b5,lp⟩:=zh9 (e:=e) hd hm s Rn [] [] none none h (by simpa using hl) (by simpa using hl);rw[_as,show fc! [v]=[e] from by rw[he];rfl]at lp;simp only[z0P,Mof,z6L,st,_j,_l,_x];rw[zn f1,zn f2,zn (by rw[z4i];exact z2t lp (by simp)),z4j,yo,z1V];rfl)
 exact key _ _ rfl rfl
end
end Po
namespace Pr
open L2 Dd Pm Pg Pn Po
open PySem.W
theorem zpw(aD:∀i j,i<N->j<N->i≠j->lt j i=! lt i j)(tr:∀i j k,c7! i j->c7! j k->c7! i k)(hN:1<=N)(h:∀i j,i<j->j<N->c7! i j): dT! N (qt! N (fZ! N))=b! (N,fZ! N):=by
 have P:PmN N (fZ! N):=⟨by simp⟩;have at_:∀i,i<N->at0 (fZ! N) i=i:=e8! (by simp[hi])
 obtain⟨m,e1,e2,e3,e4,e5⟩:=z9D aD tr P (N-1) 1 ah! (by lia) (λi j h1 h2=>by lia);have em:m=N:=by
  by_cases q:m<N
  ·exfalso;have z:=e5 (by lia);rw[at_ m q,at_ (m-1) (by lia),aD (m-1) m (by lia) q (by lia),h (m-1) m (by lia) q]at z;cases z
  ·lia
 unfold kas_count;rw[kr,e1];simp only[_L];rw[_h (by simpa using em),em];rfl
theorem range_getD{L:fC!}:aS! ay! (λi=>cp! i)=L:=by
 apply _aQ;·simp
 ·intro i h1 h2;simp[h2]
theorem zmh(nd:L.Nodup)(h:ay!<64\/Up L):∃p,zpZ L=b! p/\qs! (iX! ay!)/\Up (jP! (cp! i)):=by
 have aD:∀i j,i<ay!->j<ay!->i≠j->gw! (cp! j) (cp! i)=! gw! (cp! i) (cp! j):=λi j hi hj aJ=>by
  refine zep λz=>aJ ?_;simp only[_n,_b hi,_b hj,_aB]at z;exact (_aY nd).mp z
 have tr:∀i j k,gw! (cp! i) (cp! j)=c!->gw! (cp! j) dB!=c!->gw! (cp! i) dB!=c!:=λi j k=>zgr;unfold zpZ;by_cases q:ay!<2
 ·rw[_h q];refine mq! _ (by simp) ?_;rw[show (fZ! ay!).toList=iX! ay! by simp,range_getD];match L,q with
  | [],_=>exact List.Pairwise.nil | [a],_=>exact List.pairwise_singleton _ _
 ·rw[_q q];by_cases q2:ay!<64
  ·rw[_h q2];obtain⟨p,e,h1,h2⟩:=ziM aD tr (by lia);exact⟨p,e,h1,by rw[Up,List.pairwise_map];exact h2⟩
  ·rw[_q q2];have hu:=h.resolve_left q2;rw[zpw aD tr (by lia) (λi j aJ hj=>by
    have:=List.pairwise_iff_getElem.mp hu i j (by lia) hj aJ;simpa[show i<ay! by lia,hj] using this)];simp only;rw[_h trivial];refine mq! _ (by simp) ?_;rw[show (fZ! ay!).toList=iX! ay! by simp,range_getD];exact hu
theorem zjm{d:D}(hd:lM! d=b! (F.map rD))(nd:F.Nodup)(h:F.length<64\/Up F)(ne:∀v∈F,a4! v):∃G:List (List Int),z7L s d=b! (G.map rD)/\Up G/\(∀x,x∈G ↔ x∈F)/\G.length=F.length:=by
 obtain⟨p,e,pm,up⟩:=zmh nd h;have mem:∀i,i∈p.toList ↔ i<F.length:=λi=>by rw[pm.mem_iff,_aJ]
 have ln:rN! F.length:=by have:=pm.length_eq;simpa using this
 refine⟨jP! (F.getD i []),?_,up,λx=>?_,by simpa using ln⟩
 ·have t := zbD F;unfold z7L;rw[hd];simp only[t,e];rw[_h]
  ·congr 1;rw[_aj];refine _aX (e8! ?_);have:=(mem i).mp hi;simp[this]
  ·refine⟨?_,?_,by simpa using ln⟩
   ·rw[_S];intro v hv;have:=ne v hv;cases v with
    | nil=>exact f6! i7! | cons a b=>rfl
   ·rw[_S];intro i hi;simpa using (mem i).mp hi
 ·have:(jP! (F.getD i [])).Perm F:=by
   have:=pm.map (λi=>F.getD i []);rwa [range_getD]at this
  exact this.mem_iff
end Pr
namespace Dt
noncomputable def at_(pv:q7!)(i:Nat):Keyed:=pv.getD i (Value.none,Value.none)
structure Env(prog:Program)(w:World)(A:Around)(s:Shared)(κ:SortKind)(P:Keyed->j!)(rk:Keyed->Nat):j! where eA:∀x y,P x->P y->∀(C:Bool->Shared->Prop)(E:Value->Shared->Prop),C (bi! (rk x<rk y)) s->ct! w A (keyLt' κ x.1 y.1) C E s
section
variable {rk:Keyed->Nat}{a b x y r:q7!}
noncomputable def write(a r:q7!)(sa:Nat):q7!:=r.toList.zipIdx.foldl (λa p=>a.setIfInBounds (sa+p.2) p.1) a
end
section
variable {prog:Program}{w:World}{A:Around}{E:bP!}{s:Shared}{κ:SortKind}{a₀:q7!}{rk:Keyed->Nat}(V:Env mT! w A s κ (· ∈ a₀.toList) rk) {st:SortSt}
structure SB(κ:SortKind)(a₀:q7!)(st:SortSt):j! where
 perm:(o9! st).Perm a₀
 kind:kindOf st=κ
 failed:failedOf st=a!
end
end Dt
namespace L2
noncomputable def ztG(lo:Int)(n:Nat):It:=⟨λi _=>i<n,λi H x H'=>H'=H/\x=d! (lo-i),λi _=>n<=i⟩
theorem zgA{P:Program} {w:World} {K:W.Frag} {tg:Expr} (it:Addr) (lo:Int) (n:Nat):zjd P w K tg (ztG lo n) [it] it (λi h=>IsRangeIter h it (lo+dM! i*(-1)) (h! n-dM! i) (-1)) where
 mem:=by simp
 obj:=λi h st b hb=>by
  have e:b=it:=by simpa using hb
  subst e;exact bG! st (λv z=>by
   have z' := z;cases z')
 keep:=λi h h' st k=>k it (by simp) _ st;item:=by
  intro X hP hw hK hc i ae s O H E I hf st hg;subst hP hw hK;obtain⟨f0,f1,f2,f3,f4,f5⟩:=hf it (by simp);have W:=Walks.range (prog:=X.prog) (w:=X.w) g2! it lo (-1) n;refine W.item i s _ _ hg st λv h' tk hv ay kk=>?_;obtain⟨t,rfl⟩:=hv;have I1:lt! ({s with heap:=h',toks:=tk}):=I.turned (ki! (kk b o (by simpa using hb) e)) f0 f1 f3 f4 f5;refine aA! _ (ziI ay rfl rfl (by decide) ⟨d! (lo-i),H,I1,as! t ?_,ch! rfl,ay,ce! (hf b hb).1⟩);rw[show lo+h! i*-1=lo-i by lia]
 done:=by
  intro X hP hw hK hc i ae s O H E I hf st hg;subst hP hw hK;obtain⟨f0,f1,f2,f3,f4,f5⟩:=hf it (by simp);exact wpAny_pyNext_range_end g2! st (by have:n<=i:=hg;lia) λh' eb=>f5! (I.turned (t':=s.toks) (ki! (eb b o hb e)) f0 f1 f3 f4 f5)
 self:=λ_ _ _ _ _ st h=>wpAny_pyIter_rangeiter st h
section
variable {X:Cx}{tg:Expr}
theorem zc1{a b:Int}:Builtin.Range.rangeSize a b (-1)=Z! (eQ! (a-b)):=by
 unfold Builtin.Range.rangeSize;rw[_q (by lia)];by_cases h:b<a;·first
   | (rw[_h (by lia)];simp;lia) | (simp[h];lia)
 ·first
   | (rw[_q (by lia)];lia) | (simp[h];lia)
theorem small_down{a b:Int}(h1:-e3!<=a)(h2:dm! a)(h3:-e3!<=b)(h4:dm! b):Builtin.Range.small a b (-1)=c!:=by
 unfold Builtin.Range.small;rw[zc1];simp only[Builtin.Range.rangeFitsLong,_Q,Bool.or_eq_true,_au,_aw];refine⟨by lia,R! ?_⟩;rw[_q (by lia)];simp only[_Q,_au];lia
theorem zm4{a b c:Expr} {ta:TA} {p pos:Pos} (hg:oJ!) (hm:dx! e1!) (ha:PA X [a,b,c] ta) (bV:y! (aq! [a,b,c]=[dN! a,dN! b,dN! c])) (dm:y! (aq! [b,c]=[dN! b,dN! c])): PI X tg (c9! e1! p [a,b,c]) (λO H R=>ta O H λvs H1=>∃i j:Int,vs=[ac!,d! j,d! (-1)]/\(-e3!<=i/\dm! i/\-e3!<=j/\dm! j)/\R (ztG i (i-j).toNat) H1):=by
 intro ae s O H R I h;refine Call_ (z1t I hg hm boot_range (_aa (thn (ha pos ae s O H _ I h) λus s1 ⟨vs,H1,I1,r1,q1⟩=>?_) (by rw[bV,dm]) (by rw[dm];rfl)));obtain⟨i,j,e,⟨b1,b2,b3,b4⟩,q⟩:=q1;subst e;cases r1 with | cons r r1=>cases r1 with | cons r' r1=>cases r1 with | cons pz r1=>
    cases r1;obtain⟨t,rfl⟩:=r;obtain⟨t',rfl⟩:=r';obtain⟨gI,rfl⟩:=pz;refine call_range_3 (by lia) ?_ (w! (_bK (by decide +kernel)));refine wpAny_pyIter_range (IsRange.new ..) (small_down b1 b2 b3 b4) ?_;have I2:cB! H1 ({s1 with heap:=pZ! ({cls:=lA!,data:=eq! #[bJ! i,bs! j t',bs! (-1) gI]}),toks:=s1.toks}):=nO! (lI! _ e);refine⟨d1! (pZ! ({cls:=lA!,data:=eq! #[bJ! i,bs! j t',bs! (-1) gI]})),[d1! (pZ! ({cls:=lA!,data:=eq! #[bJ! i,bs! j t',bs! (-1) gI]}))],_,_,H1,rfl, I2.kept (lI! _ e),zgA _ i (i-j).toNat,?_,ce! ?_,q⟩
    ·have e1:i+Z! 0*(-1)=i:=by simp
     have e2:Z! (eQ! (i-j))-Z! 0=Builtin.Range.rangeSize i j (-1):=by rw[zc1];lia
     show IsRangeIter _ _ (i+Z! 0*(-1)) (Z! (eQ! (i-j))-Z! 0) (-1);rw[e1,e2];exact gN!
    ·have e:b=d1! (pZ! ({cls:=lA!,data:=eq! #[bJ! i,bs! j t',bs! (-1) gI]})):=by simpa using hb
     subst e;exact I2.fpOk ah! (I2.hok.fresh ah!)
end
end L2
namespace Dd
open L2
section
variable {X:Cx}{E:XK}{a b c tg:Expr}{pos:Pos}
noncomputable def vG(i:Int)(n:Nat):C!:=aS! n (λ(k:Nat)=>aJ! (i-Z! k))
noncomputable def zfC(f:FA):FI:=bW! aK! (ix! (match ds with
 | [.int i,.int j,.int (-1)]=>aa! (-e3!<=i/\dm! i/\-e3!<=j/\dm! j) (T! (vG i (i-j).toNat,[])) | _=>.no))
theorem zpe{p:Pos}{f:FA}(hg:oJ!)(hm:dx! e1!)(ha:RA X E [a,b,c] f)(bV:y! (aq! [a,b,c]=[dN! a,dN! b,dN! c]))(dm:y! (aq! [b,c]=[dN! b,dN! c])):RI X E tg (c9! e1! p [a,b,c]) (zfC f):= z7P (zm4 hg hm ha bV dm) λO H Q ⟨Y,ρ,s,r,en,h⟩=>by
  unfold zfC at h;refine⟨Y,ρ,s,r,en,c2! h (λvs H1 ⟨Y1,s1,ds,stp,dn,h1⟩=>?_)⟩;split at h1
  ·rename_i i j;split at h1
   ·rename_i hj;simp only[yj]at dn;obtain⟨v1,r1,rfl,d1,v2,r2,rfl,d2,v3,r3,rfl,d3,rfl⟩:=dn;cases yq d1;cases yq d2;cases yq d3;refine gB! i j hj (os! (λH2 Y2 s2 ag _ k=>⟨hY! ?_,λhl=>?_⟩))
    ·have hi:k<eQ! (i-j):=by
      have:=cE! hd;simpa[vG] using this
     refine⟨hi,λx H' ⟨e1,e2⟩=>?_⟩;subst e1 e2;refine⟨Y2,.refl i6!,?_⟩;have e3:d=aJ! (i-k):=by
      simp only[vG,_z,_aD hi,_af,_y]at hd;exact hd.symm
     rw[e3];exact yB
    ·have:r! (vG i (i-j).toNat)=eQ! (i-j):=by simp[vG]
     show eQ! (i-j)<=k;rw[<- this];exact hl
   ·exact h1.elim
  ·exact h1.elim
@[simp] theorem zmX(f:FA)(ρ:Ev)(s:Sto):zfC f ρ s=jS! (ix! (match ds with
 | [.int i,.int j,.int (-1)]=>aa! (-e3!<=i/\dm! i/\-e3!<=j/\dm! j) (T! (vG i (i-j).toNat,[])) | _=>.no)):=V!
noncomputable def zdx:D->D->bn!:=lL! (aa! (j≠0/\kl!<BIG) (iOk (d! (i.fdiv j))))
theorem zjc:gf! .FloorDiv (rI (λ_ j=>j≠0/\kl!<BIG) (ms! (i.fdiv j))):=opI λi j _ _ _ _ _ hc q=> floordiv_int hc.1 q (w! (_bK (zgh hc.2)))
theorem znE:∃r,gf! .FloorDiv r/\cK! zdx:=bG! zjc (lu! (by
 split at e
 ·rename_i hc;simp only[iOk,R.ok.injEq]at e;exact⟨i,j,rfl,rfl,hc,q _ (by intro H Y;rw[<- e.1];exact yB)⟩
 ·cases e))
noncomputable def z7J:D->D->bn!:=lL! (aa! (gV!<2 ^ (2 ^ 16)/\kl!<2 ^ (2 ^ 16)) (iOk (d! (i*j))))
theorem zb2{i:Int}(h:gV!<2 ^ (2 ^ 16)):Builtin.Int.intBits i<=2 ^ 20:=by
 have q:=(PySem.intBits_le_iff).mpr h;exact _Y q (by decide)
theorem znc:nm! (rI (λi j=>gV!<2 ^ (2 ^ 16)/\kl!<2 ^ (2 ^ 16)) (ms! (i*j))):=opI λ_ _ _ _ _ _ _ hc q=>mul_int q (IntMulOk.of_bits (zb2 hc.1) (zb2 hc.2))
theorem zhF:∃r,nm! r/\cK! z7J:=bG! znc (lu! (by
 split at e
 ·rename_i hc;simp only[iOk,R.ok.injEq]at e;exact⟨i,j,rfl,rfl,hc,q _ (by intro H Y;rw[<- e.1];exact yB)⟩
 ·cases e))
theorem zjp{i j:Int}(h:j≠0)(hb:kl!<BIG)(s:Sto):zdx ac! (d! j) s=u! (i.fdiv j):=by
 simp only[zdx,dII,iOk];rw[b7! h hb]
theorem zgx{i j:Int}(h:gV!<2 ^ (2 ^ 16))(hb:kl!<2 ^ (2 ^ 16))(s:Sto):z7J ac! (d! j) s=u! (i*j):=by
 simp only[z7J,dII,iOk];rw[b7! h hb]
end
end Dd
namespace aZ
open L2 Dd Pg
noncomputable def rsX:al!:=[gR!,gS!,iU!,iV!]
noncomputable def csX:al!:=[gR!,iU!,nC!,nD!,iV!,nB!,gS!,ns!,nt!,nx!,nu!,nz!,nw!,nE!,nA!,nv!,ny!]
@[simp] noncomputable def z4T:FS:=(yu 1 (kY (fn! (hL! gR!) (hL! iU!) (hL! nC!) (hL! nD!) zm)))
@[simp] noncomputable def z4r:FS:=(yu 1 (jj! 1 (kY (fn! (hL! iV!) (hL! nB!) (hL! gS!) (hL! ns!) zm))))
@[simp] noncomputable def z4N:FS:=(yu 1 (jj! 1 (kY (fn! (hL! nt!) (hL! nx!) (hL! nu!) (hL! nz!) zm))))
@[simp] noncomputable def z4M:FS:=(yu 1 (jj! 1 (kY (fn! (hL! nw!) (hL! nE!) (hL! nA!) (hL! nv!) zm))))
@[simp] noncomputable def z4z:FS:=(yu 1 (jj! 1 (kY (bC! (hL! ny!)))))
@[simp] noncomputable def z4G:FS:=(xc (bM! "other"))
@[simp] noncomputable def z4V:FS:=(bm! (fOr (hc! (zpB o! (eC eA!)) ak!) (fE! (ztM rsX n!))) z4G)
@[simp] noncomputable def z4C:FS:=(yu 2 (kY (fn! (bM! az!) (bM! ef!) (bM! dd!) (bM! "alike") (fn! (bM! "fair") (bM! "text") (bM! cZ!) (bM! "ended") (bC! (bM! "bottom"))))))
@[simp] noncomputable def z4K:FS:=(yu 2 (jj! 2 (kY (fn! (bM! "root") (bM! "cube") (bM! l0!) (bM! iy!) (fn! (bM! "many") (bM! "step") (bM! "deed") (bM! "row") zm)))))
@[simp] noncomputable def z3d:FS:=(xc (fb! 2 (zpr o! (eC eA!))))
noncomputable def z6P:FS:=(dw! z4T z4r z4N z4M (dw! z4z z4V z4C z4K z3d))
noncomputable def wL:Mir:=cL! [pp!,iz!,"_law_words"] z6P
@[simp] noncomputable def kc:FS:=(yu 1 fj!)
@[simp] noncomputable def kG:FS:=(yu 2 (z19 (z4P (aO! n! (cA! Pg.xu 1))) iH! (yN 0 1) zZ (bc! (bq! z6W) (cA! z6W 1))))
@[simp] noncomputable def vk:FS:=(yu 4 (zv (zcn (cg! ba! 1)) (eX! 3 2) (yh 2) (hc! (c5! (ar! 1 2) n!) D!) I!))
@[simp] noncomputable def vn:FS:=(yu 5 (c5! (c5! (a0! zaq (jW! (zT (zd 4)) (eX! 3 2) 2 (cw! (a0! zkv (c5! (ar! 1 2) n!)) I!))) D!) ak!))
@[simp] noncomputable def vC:FS:=(yu 6 (ar! 2 5))
@[simp] noncomputable def vq:FS:=(z0y I! (zd 5) (ar! 2 3))
@[simp] noncomputable def vE:FS:=(z0y I! ba! (zd 6))
@[simp] noncomputable def uj:FS:=(yu 8 (eOp zdx (c5! (ar! 2 7) ba!) (ar! 6 3)))
@[simp] noncomputable def um:FS:=(z0y I! (zd 7) (lE! (z4P (aO! (zd 6) (ar! 2 7))) (dz! 8) (yN 1 2) (kb! 2 (eOp z7J n! o!))))
@[simp] noncomputable def wK:FS:=(gh! (zcn (cg! (gH! 3) 1)) 7 (zA uj um))
@[simp] noncomputable def uU:FS:=(z1r (hc! (zv (zT (eG! I! (gH! 3))) (au! 3) cc! (hc! (gb! 1) D!) o!) (kY zm)) (zA vk (dw! vn vC vq vE wK)))
@[simp] noncomputable def jX:FS:=(gh! (eb! 1) 3 uU)
@[simp] noncomputable def uv:FS:=(z0y I! ba! (jW! (zT (ar! 2 3)) (eX! 3 2) 2 (eOp z7J I! (c5! (gb! 1) n!))))
@[simp] noncomputable def uu:FS:=(yu 6 (ar! 2 3))
@[simp] noncomputable def uy:FS:=(yu 8 (c5! (ar! 2 7) ba!))
@[simp] noncomputable def uf:FS:=(z0y I! (zd 7) (lE! (z4P (aO! (zd 6) (ar! 2 7))) (dz! 8) (yN 1 2) (kb! 2 (eOp z7J n! o!))))
@[simp] noncomputable def uh:FS:=(gh! (eb! 3) 7 (be! uu uy uf))
@[simp] noncomputable def jn:FS:=(gh! (zfC (zb (kb! 1 ak!) (aO! dQ! dQ!))) 3 (zA uv uh))
@[simp] noncomputable def jp:FS:=(xc (el! (zT I!) b4! 1 (pA! (eG! o! n!))))
noncomputable def z3I:FS:=(dw! kc kG jX jn jp)
noncomputable def qD:Mir:=z4Q (cL! [i9!,fu!,kr!,ev!,"_law_good","_law_first","_law_head",cP!,iA!] z3I)
@[simp] noncomputable def jl:FS:=(zir (cM! Pg.ku) (yN 2 3))
@[simp] noncomputable def ju:FS:=(yu 4 (a0! Pg.xu (hg! 1)))
@[simp] noncomputable def ug:FS:=(yu 4 (ez! Pg.jo (zd 4) 5))
@[simp] noncomputable def jr:FS:=(gh! (zT ba!) 5 ug)
@[simp] noncomputable def jj:FS:=(yu 6 (cA! qD 4))
@[simp] noncomputable def jy:FS:=(yu 7 (c5! (zv (z1S (bC! (fb! 2 dQ!))) iH! (yN 0 1) (gA! dGt o! D!) n!) D!))
@[simp] noncomputable def jx:FS:=(xc (bc! (kY (bC! (ar! 6 7))) (zv (z1S (co! 6)) (dz! 7) (yN 1 2) (d7! 1 n!) I!)))
noncomputable def z2v:FS:=(zA jl (dw! ju jr jj jy jx))
noncomputable def uC:Mir:=z4Q (cW! [fv!,dL!,pe!,pf!,"_law_whole_here",i9!,hy!,ev!] z2v)
@[simp] noncomputable def xI:FS:=(xc (zhI (c5! (kY (aO! (eC (.fn mR!)) (eC (.fn mQ!)))) n!) [(mR!,Pg.vA),(mQ!,Pg.yP)] (cg! o! 2)))
@[simp] noncomputable def jR:FS:=(xc (cA! wL 3))
@[simp] noncomputable def jS:FS:=(zpp rsX xI 3 jR)
noncomputable def z0t:FS:=jS
noncomputable def zI:Mir:=Mof ["_law_way",d4!,dK!,pp!] 3 z0t
@[simp] noncomputable def z5v:FS:=(yu 2 (a0! Pg.jL (cM! Pg.wH)))
@[simp] noncomputable def z73:FS:=(yu 3 (cA! Pg.z0W 2))
@[simp] noncomputable def z6v:FS:=(yu 4 (c5! (zg Pg.ja zm) (zg Pg.zC (aO! I! (O! 4)))))
@[simp] noncomputable def z5N:FS:=(yu 5 (ez! uC (zd 4) 3))
@[simp] noncomputable def zmB:FS:=(xc (eC dg!))
@[simp] noncomputable def z9p:FS:=(bm! (fE! (zg Pg.km (aO! (zg zI (zb D! (cg! (zd 4) 3))) (gI! 5)))) zmB)
@[simp] noncomputable def z67:FS:=(gh! (jB (bC! (O! 2))) 6 z9p)
@[simp] noncomputable def z6a:FS:=(yu 7 (eOp z7h (zg Pg.zC (aO! I! (O! 9))) (O! 4)))
@[simp] noncomputable def z2c:FS:=(yu 8 (fb! 5 (bc! ak! (zg Pg.zC (aO! I! (eOp z7h (hg! 3) ak!))))))
@[simp] noncomputable def z2k:FS:=(yu 9 (pA! (lE! (z4P (cg! (gI! 5) 8)) (dz! 7) (yN 1 2) (jj! 1 (hk! 0 I!)))))
@[simp] noncomputable def z5b:FS:=(yu 10 (ez! oh! I! 3))
@[simp] noncomputable def z0X:FS:=(yu 12 (zc2 (zg Pg.yJ (aO! (zd 11) (hg! 3))) (go! (ez! Pg.vR (zd 11) 3) (cA! Pg.qd 3))))
@[simp] noncomputable def zkd:FS:=(xc (eC dg!))
@[simp] noncomputable def z2w:FS:=(bm! (fE! (ez! Pg.km (zg zI (zb ak! (cg! ba! 11))) 12)) zkd)
@[simp] noncomputable def z5m:FS:=(gh! (zT (kY (fn! (gI! 5) (zd 9) (zg oh! (aO! I! (gI! 5))) (ez! oh! I! 9) (aO! (fb! 5 ak!) (cA! Pg.vO 2))))) 11 (zA z0X z2w))
@[simp] noncomputable def z59:FS:=(yu 13 (ez! Pg.ut I! 4))
@[simp] noncomputable def zjJ:FS:=(xc (eC dg!))
@[simp] noncomputable def z52:FS:=(bm! (fOr (hc! (zg zI (zb D! (cg! (zd 13) 3))) (bM! cZ!)) (hc! (zg zI (zb D! (cg! (zd 13) 10))) (bM! cZ!))) zjJ)
@[simp] noncomputable def zki:FS:=(xc (eC dg!))
@[simp] noncomputable def z5g:FS:=(bm! (zkN (fE! (cA! Pg.yA 10)) (hc! (kY (aO! (zg zI (zb D! (cg! (zd 4) 10))) (zg zI (zb ak! (aO! (zd 10) (gI! 5)))))) (eOp zqx (kY (bC! (bM! az!))) (O! 2)))) zki)
@[simp] noncomputable def zcv:FS:=(gh! (jB (bC! (zg zjO (aO! ak! (zg zka (aO! fj! (O! 10))))))) 1 (dw! z5v z73 z6v z5N (dw! z67 z6a z2c z2k (dw! z5b z5m z59 z52 z5g))))
@[simp] noncomputable def z9E:FS:=(xc (zc2 (go! (zg zI (zb D! (aO! (eC js!) (cw! D! (O! 4))))) (cw! D! ak!)) (eOp dIs (zg zI (zb ak! (aO! (cw! D! (O! 4)) (cw! (O! 9) ak!)))) (eC eA!))))
noncomputable def zkt:FS:=(zA zcv z9E)
noncomputable def zn9:Mir:=cL! [l1!,qA!,e9!,dL!,fv!,kr!,"_law_turn",iA!,pg!,ll!,"_law_bad",ja!,oc!,"_law_none"] zkt
end aZ
set_option maxHeartbeats 6000000
namespace aZ
open L2 Dd Pg
class Txt (P:Program)(w:World)(K:W.Frag)(mg:Str->aN!):j! where
 f0:∃t,mg "LEAST_SIZE"=b! (bJ! 2)
 f1:∃t,mg "MOST_SIZE"=b! (bJ! 4)
 f2:hi! im!
 f3:hi! "abs"
 f4:hi! iT!
 f5:hi! fs!
 f6:hi! gp!
 f7:hi! ee!
 f8:hi! gq!
 f9:hi! "len"
 f10:hi! d0!
 f11:hi! nq!
 f12:hi! nr!
 f13:hi! e1!
 f14:hi! k0!
 f15:hi! fU!
 f16:hi! "sum"
 f17:hi! dd!
 f18:hi! io!
 q:∀(i:Nat){x:Str}{st:Stmt},aj! askQ.fs (x,st)->Fq K mg x st
 T_RULES:zp3 P w K mg "RULES" z2p
 E_NoRule:znT K mg gS!
 E_NoLot:znT K mg gR!
 E_NoTable:znT K mg iU!
 E_NotFair:znT K mg iV!
 FM:zdt ⟨mg,K⟩ rsX csX
 KS:∀c∈rsX,zrz K mg c k1!
theorem zoo:k4! "abs"=hH! "abs":=by decide +kernel
theorem zdg:k4! iT!=hH! iT!:=by decide +kernel
theorem z6x:kz! fs! (aF! fs!):=by decide +kernel
theorem zbe:kz! ee! (aF! ee!):=by decide +kernel
theorem yW:k4! "len"=hH! "len":=by decide +kernel
theorem z2X:kz! d0! c1!:=by decide +kernel
theorem z22:k4! nq!=hH! nq!:=by decide +kernel
theorem zhd:k4! nr!=hH! nr!:=by decide +kernel
theorem za6:k4! k0!=hH! k0!:=by decide +kernel
theorem zl2:kz! fU! (aF! fU!):=by decide +kernel
theorem zkR:k4! "sum"=hH! "sum":=by decide +kernel
theorem ya:kz! dd! du!:=by decide +kernel
theorem zuM:bl! [iA!,d4!,dK!]:=by decide +kernel
theorem ztB:bl! [eg!,cP!]:=by decide +kernel
theorem zuF:bl! [ev!,eg!,fX!]:=by decide +kernel
theorem zu4:bl! [fu!,fX!]:=by decide +kernel
theorem zu9:bl! [fX!,"_law_column"]:=by decide +kernel
theorem zug:bl! [dL!,eg!]:=by decide +kernel
theorem ztR:bl! [na!,cP!,eg!]:=by decide +kernel
theorem zul:bl! [qD!,na!,dL!,eg!]:=by decide +kernel
theorem zuH:bl! [oa!,eg!]:=by decide +kernel
theorem zuG:bl! [qE!,dL!,oa!,eg!,cP!]:=by decide +kernel
theorem zqW:bl! [eg!,"_law_column"]:=by decide +kernel
theorem ztq:bl! [cP!]:=by decide +kernel
theorem zsM:bl! [d4!,dK!,ev!]:=by decide +kernel
theorem zob:bl! [ev!,fX!]:=by decide +kernel
theorem zrA:bl! [qC!,ev!]:=by decide +kernel
theorem zts:bl! [ev!,"_law_side"]:=by decide +kernel
theorem zsR:bl! [fX!,n9!]:=by decide +kernel
theorem znn:bl! [ev!,kr!,cP!]:=by decide +kernel
theorem zoL:bl! [iA!,qB!,n9!]:=by decide +kernel
theorem zsH:bl! [d4!,dK!]:=by decide +kernel
theorem ztk:bl! [az!,d3!]:=by decide +kernel
theorem zrG:bl! [cZ!,"ahead"]:=by decide +kernel
theorem zqS:bl! [lk!,n8!,ef!,d3!]:=by decide +kernel
theorem ztg:bl! [n8!,d3!,ef!,lj!]:=by decide +kernel
theorem zsF:bl! [ko!,d3!]:=by decide +kernel
theorem zs7:bl! ["part"]:=by decide +kernel
theorem zrQ:bl! [i8!,lj!,iy!]:=by decide +kernel
theorem ztd:bl! [qv!,d3!]:=by decide +kernel
theorem zo9:bl! [iy!]:=by decide +kernel
theorem zsa:bl! [az!,gY!,iy!,"quotient"]:=by decide +kernel
theorem zrH:bl! ["divided",az!,gY!,"at"]:=by decide +kernel
theorem zs6:bl! [qw!,"at"]:=by decide +kernel
theorem ztv:bl! [cZ!,gY!,d3!,"quotient"]:=by decide +kernel
theorem zt2:bl! [lk!,d3!]:=by decide +kernel
theorem ztu:bl! [d3!,lj!]:=by decide +kernel
theorem zsn:bl! ["one",lj!]:=by decide +kernel
theorem zs8:bl! [kp!,d3!]:=by decide +kernel
theorem zrU:bl! mC!:=by decide +kernel
theorem zs4:bl! [ef!,"at"]:=by decide +kernel
theorem zrE:bl! ["at",d3!]:=by decide +kernel
theorem zto:bl! [ll!,cP!]:=by decide +kernel
theorem zss:bl! [d4!]:=by decide +kernel
section
local macro_rules | `(tactic| trivial)=>`(tactic| exact⟨rfl,rfl,rfl,by decide +kernel,rfl,by decide +kernel,by decide +kernel⟩)
theorem zcO:S! c3! c3! z6H:=by trivial
theorem zd1:S! c3! c3! z5Y:=by trivial
theorem kI:S! mC! mC! kJ:=by trivial
theorem zcs:S! [d3!,kp!] [d3!,kp!] z5r:=by trivial
theorem z1o:S! [l0!,lk!] [l0!] z1v:=by trivial
theorem z93:S! [ef!] [ef!] z2h:=by trivial
theorem z8e:S! [i8!,"at_line",qv!,"kept"] [i8!,"at_line",qv!] z8q:=by trivial
theorem zeC:S! [d3!,lj!] [d3!,lj!] z8o:=by trivial
theorem vM:S! [az!,"at"] hJ! vL:=by trivial
theorem z7b:S! hJ! hJ! z1m:=by trivial
theorem zeQ:S! [az!,qw!] [az!,qw!] z8B:=by trivial
theorem zez:S! c3! c3! z82:=by trivial
theorem ziY:S! [cZ!,kp!] [cZ!,kp!] ze5:=by trivial
theorem z5W:S! [l1!,qA!] [l1!,qA!] z0e:=by trivial
theorem vV:S! ["_law_cell",cP!,"_law_j",ll!] ["_law_cell"] z76:=by trivial
theorem z3M:S! [e9!,qF!,hy!] [e9!,qF!] z4m:=by trivial
theorem z9s:S! [] [] z1R:=by trivial
theorem zP:S! [fv!,dL!,fu!,"_law_order",na!,oa!,qD!,iz!,qE!,eg!,ob!,kr!,fX!] [fv!,dL!] z3B:=by trivial
theorem z8M:S! [dL!] [dL!] z1O:=by trivial
theorem z9q:S! [fu!] [fu!] z2B:=by trivial
theorem vW:S! [i9!,kq!,hy!,fX!,pc!,d4!,dK!] [i9!,kq!] z6k:=by trivial
theorem kD:S! [d4!,dK!,pc!,qB!,n9!] [d4!,dK!] z5V:=by trivial
theorem z9h:S! [ja!] [ja!] z2H:=by trivial
theorem qf:S! [kq!,hy!,cP!,dK!] [kq!] z5p:=by trivial
theorem yC:S! [pp!,iz!,"_law_words"] [pp!] z0c:=by trivial
theorem z9d:S! [ko!,"many"] [ko!,"many"] z1N:=by trivial
theorem z7D:S! [i8!,kp!] [i8!,kp!] z1h:=by trivial
theorem zbS:S! [i8!] [i8!] z3X:=by trivial
theorem z83:S! [az!,qx!,qy!] hJ! z8g:=by trivial
theorem z6r:S! [az!,qx!,qy!] hJ! z5z:=by trivial
theorem zaH:S! [az!,gY!] hJ! zay:=by trivial
theorem zf6:S! hJ! hJ! z8z:=by trivial
theorem z4a:S! c3! c3! z3R:=by trivial
theorem wf:S! [e9!,fu!,qF!,"_law_thin",kq!,eg!,cP!,ll!] [e9!] z6C:=by trivial
theorem jU:S! [fv!,dL!,pe!,pf!,ob!,i9!] [fv!,dL!] z5J:=by trivial
theorem qt:S! [d4!,dK!,fu!,qC!] [d4!,dK!] z0g:=by trivial
theorem yp:S! [i9!,fu!,kr!,ev!,"_law_good","_law_first","_law_head",cP!,iA!] [i9!] z4l:=by trivial
theorem z33:S! [ja!,iA!] [ja!,iA!] jM:=by trivial
theorem z0r:S! [e9!,fv!,iz!] [e9!,fv!] z0N:=by trivial
theorem z18:S! [ja!,cP!] [ja!] z1e:=by trivial
theorem z5Z:S! [e9!,iz!] [e9!] z6q:=by trivial
theorem zbY:S! [hy!,oc!] [hy!,oc!] z3O:=by trivial
theorem zfY:S! c3! c3! zbM:=by trivial
theorem zcF:S! c3! c3! z5R:=by trivial
theorem z1J:S! [cZ!,az!,"deal",gY!,"divided"] dh! z6u:=by trivial
theorem zeK:S! [az!,ko!,iy!] [az!,ko!,iy!] z85:=by trivial
theorem xz:S! [fv!,dL!,pe!,pf!,"_law_whole_here",i9!,hy!,ev!] [fv!,dL!] z1T:=by trivial
theorem wY:S! [e9!,pg!,ev!,"_law_odd_here",iz!] [e9!,pg!] z46:=by trivial
theorem z5C:S! c3! c3! z5t:=by trivial
theorem z2x:S! c3! c3! z2m:=by trivial
theorem z1Z:S! [az!,"divisor",iy!] hJ! zas:=by trivial
theorem zbl:S! hJ! hJ! z3J:=by trivial
theorem z9I:S! mC! mC! z2a:=by trivial
theorem z9K:S! [ef!] [ef!] z2L:=by trivial
theorem uO:S! dh! dh! uR:=by trivial
theorem jm:S! [ef!,n8!,lk!] [ef!] z1c:=by trivial
theorem wW:S! [l0!,m9!,"products",ef!] [l0!,m9!] qH:=by trivial
theorem zbA:S! dh! dh! z4k:=by trivial
theorem z7l:S! [az!,ko!] [az!,ko!] z1a:=by trivial
theorem zcp:S! [cZ!,az!,gY!,qz!,"left"] dh! zg3:=by trivial
theorem z2g:S! [cZ!,az!,gY!,qz!] dh! z2n:=by trivial
theorem zku:S! [cZ!,az!,"lots"] dh! zlh:=by trivial
theorem za8:S! dh! dh! z3P:=by trivial
theorem z1x:S! [cZ!,az!,m9!] dh! z1b:=by trivial
theorem z7y:S! dh! dh! z13:=by trivial
theorem z9t:S! dh! dh! z2K:=by trivial
theorem zf7:S! dh! dh! z7X:=by trivial
theorem z3Q:S! ["_law_way",d4!,dK!,pp!] ["_law_way",d4!,dK!] z3C:=by trivial
theorem qZ:S! [l1!,qA!,e9!,dL!,fv!,kr!,"_law_turn",iA!,pg!,ll!,"_law_bad",ja!,oc!,"_law_none"] [l1!] z7O:=by trivial
end
section
variable {P:Program}{w:World}{K:W.Frag}{mg:Str->aN!}{base:Heap}[T:Txt P w K mg]
local macro_rules | `(tactic| trivial)=>`(tactic| first | exact (λ_ _ _ _ _ _ us hl=>match us,hl with | [],_=>rfl) | exact (λ_ _ _ _ _ _ us hl=>match us,hl with | [_],_=>rfl) | exact (λ_ _ _ _ _ _ us hl=>match us,hl with | [_,_],_=>rfl) | exact (λ_ _ _ _ _ _ us hl=>match us,hl with | [_,_,_],_=>rfl))
instance zlo:ae! "is_whole" 1 Pg.z11:= fQ! 0 zcO (fd! (kW! (hN! (by decide) zbe (by rfl) (by rfl) T.f7 Q!) (zoU (hN! (by decide) z6x (by rfl) (by rfl) T.f5 Q!)))) (by trivial)
instance zlg:ae! "has_size" 1 Pg.yS:= fQ! 1 zd1 (fd! (kW! (hN! (by decide) ya (by rfl) (by rfl) pq! Q!) (zmU ztz ztz (zu2 (by rfl) T.f0) (zF vh (by rfl) T.f9 yW bD! (he:=(zu ..))) (zu2 (by rfl) T.f1)))) (by trivial)
instance zfj:ae! "common_of_two" 1 Pg.vy:= ca! 2 kI (have hu:=hr.units;(gF! (z68 _E (eI! H! zq) (zp (zq9 0 1 hc kI.nd (aN H! (aB (zE zcC Q! H!) zh))))) Q!)) (by trivial)
instance zlB:ae! "together" 1 Pg.xT:= ca! 3 zcs (fd! (zF (zpP (by exact hc)) (by rfl) T.f16 zkR (cG! (bb! mC! iH! (by exact hc) (mv! (by rfl) (kg! 0)) (xB 0 1 (by exact hc) zrU) (xy 0 1 (by decide) (by rfl) (by rfl)) ye (zE uB Q! H!))) (he:=(zH ..)))) (by trivial)
instance zhA:ae! "like_places" 1 Pg.xJ:= ca! 4 z1o (have hu:=hr.units;(gF! (zR 1 z1o.nd (z6D (by exact hc) (by rfl) T.f10 (by rfl) ru! bD!)) (yr yV (by rfl) T.f17 ya (cG! (bb! [lk!,d3!] b4! (by exact hc) (wE H!) (zS (i:=1) zt2 (by rfl) (by first | exact bv! | exact bH!)) (zN 1 (by rfl)) ye (yr yV (by rfl) T.f17 ya (cG! (bb! [d3!,lj!] b4! (by exact hc) iQ! (zS (i:=1) ztu (by rfl) (by first | exact bv! | exact bH!)) (zN 1 (by rfl)) ye (zqw (yc d9! Q! H!) zq zq))) (he:=(zH ..))))) (he:=(zH ..))))) (by trivial)
instance zik:ae! "columns_of" 1 Pg.yR:= ca! 5 z93 (fd! (yr yV (by rfl) T.f17 ya (cG! (bb! [ef!,"at"] (au! 0) (by exact hc) (g7! (by rfl) (cH! (zF vh (by rfl) T.f9 yW bD! (he:=(zu ..))))) (zS (i:=1) zs4 (by rfl) (by first | exact bv! | exact bH!)) (zN 1 (by rfl)) ye (yr yV (by rfl) T.f17 ya (cG! (bb! ["at",d3!] b4! (by exact hc) iQ! (zS (i:=1) zrE (by rfl) (by first | exact bv! | exact bH!)) (zN 1 (by rfl)) ye (hP! Q!))) (he:=(zH ..))))) (he:=(zH ..)))) (by trivial)
instance zlT:ae! "without" 1 Pg.xN:= ca! 6 z8e (gF! (zR 3 z8e.nd (bE! (yK Q! xO (xx H!)) (yK Q! (xx (ke! H!)) xO))) (yr yV (by rfl) T.f17 ya (cG! (bb! [qv!,d3!] (au! 2) (by exact hc) (wE (zc 3)) (zS (i:=1) ztd (by rfl) (by first | exact bv! | exact bH!)) (zN 1 (by rfl)) ye (bE! (yK H! xO (xx Q!)) (yK H! (xx (ke! Q!)) xO)))) (he:=(zH ..)))) (by trivial)
instance zn0:ae! "sign_at" 1 Pg.wj:= fQ! 7 zeC (have hu:=hr.units;(fd! (zqw (yc d9! (zE zcC (bE! Q! H!) zq) zq) zq ka!))) (by trivial)
instance z9v:ae! "greatest_and_others" 1 Pg.zX:= ca! 8 vM (gF! (zR 1 vM.nd (zcW Q! (zF (z3K (by exact hc)) (by rfl) T.f11 z22 bD! (he:=(zu ..))))) (wB (aN H! (aB (bE! (bE! (yK Q! xO (xx H!)) (wB eU!)) (yK Q! (xx (ke! H!)) xO)) zh)))) (by trivial)
instance zhL:ae! "least_place" 1 Pg.xb:= ca! 9 z7b (have hu:=hr.units;(fd! (zcW Q! (zF (zkF (by exact hc)) (by rfl) T.f12 zhd (cG! (bb! [iy!] [a!] (by exact hc) iQ! (zS (i:=0) zo9 (by rfl) (by first | exact bv! | exact bH!)) (zN 0 (by rfl)) (wS (eI! Q! zq)) Q!)) (he:=(zH ..)))))) (by trivial)
instance znS:ae! "all_but" 1 Pg.uD:= ca! 10 zeQ (have hu:=hr.units;(fd! (bb! [qw!,"at"] b4! (by exact hc) (g7! (by rfl) (cH! (zF vh (by rfl) T.f9 yW bD! (he:=(zu ..))))) (zS (i:=1) zs6 (by rfl) (by first | exact bv! | exact bH!)) (zN 1 (by rfl)) (wS (eI! H! Q!)) H!))) (by trivial)
instance zn8:ae! "is_rule" 1 Pg.vt:= fQ! 11 zez (fd! (kW! (hN! (by decide) zl2 (by rfl) (by rfl) T.f15 Q!) (znf T.T_RULES (by rfl) Q!))) (by trivial)
instance zpc:ae! "moved" 1 Pg.jT:= fQ! 12 ziY (have hu:=hr.units;(fd! (zqw (yc d9! Q! xF) (bE! (yK H! (xx zq) xO) (yK H! xO (xx zq))) H!))) (by trivial)
instance zfw:ae! "_law_cell_at" 1 Pg.wH:= fQ! 13 z5W (gF! (do! (yc ztZ H! (zF vh (by rfl) T.f9 yW bD! (he:=(zu ..)))) (zQ (xK Q! H!))) zq) (by trivial)
instance zls:ae! "_law_pot" 1 Pg.jL:= ca! 14 vV (zi (do! (yc zsS Q! (zE zeV zq zq)) (zQ (z7C (aB (zE z6s Q! (zE zeV zq zq)) zh)))) (gL! (zR 1 vV.nd zq) (kz _E hc (g7! (by rfl) eU!) (uG 2 vV.nd) (d6! (zR 3 vV.nd (zE zcC (zE uB (ke! (bE! (zE zcC Q! zq) (zE uB zq aI!))) zq) zq)) (zR 3 vV.nd (zE zcC (ke! (bE! (zE uB (zc 3) (zc 3)) (zE uB zq aI!))) zq)) (zp (zR 1 vV.nd (bE! (zE uB H! zq) (zc 3)))))) (z7C a1!))) (by trivial)
instance ziB:ae! "_law_take" 1 Pg.zC:= fQ! 15 z3M (gL! (zR 2 z3M.nd (zE zcC (fO! Q!) H!)) (z0A (zE zhi (fO! Q!) H!) Q! zq) aI!) (by trivial)
instance zic:ae! "_law_rules" 1 Pg.ja:= fQ! 16 z9s (fd! (vQ (kG! (kG! zh)))) (by trivial)
instance zjF:ae! "_law_step" 1 Pg.z1f:= (ca! 17 zP (have hu:=hr.units;(d6! (kK! 2 (zF vh (by rfl) T.f9 yW a1! (he:=(zu ..)))) (kK! 3 (zF ziE (by rfl) T.f14 za6 (cG! (bb! [eg!,cP!] iH! (by exact hc) (zbB (by rfl) T.f6 a1!) (xB 0 1 (by exact hc) ztB) (xy 0 1 (by decide) (by rfl) (by rfl)) (wS (yc zo2 H! zq)) (wB (aN H! bD!)))) (he:=(zH ..)))) (d6! (kK! 4 (fO! (bb! [dL!,eg!] b4! (by exact hc) (g7! (by rfl) (aZ! 2)) (zS (i:=1) zug (by rfl) (by first | exact bv! | exact bH!)) (zN 1 (by rfl)) (wS (yc d9! (xK Q! H!) (zF (z3K (by exact hc)) (by rfl) T.f11 z22 bD! (he:=(zu ..))))) H!))) (kK! 5 (zpJ (by decide) (fO! (fO! (zc 3))) zq Q!)) (d6! (do! (yc d9! Q! xF) (kK! 5 (fO! (bb! [na!,cP!,eg!] (dz! 4) (by exact hc) (wE (zc 3)) (xB 1 2 (by exact hc) ztR) (xy 1 2 (by decide) (by rfl) (by rfl)) (wS (eI! aI! Q!)) aI!)))) (z02 (yc d9! Q! xF) (zi (kK! 6 (zF (z3K (by exact hc)) (by rfl) T.f11 z22 (cG! (bb! [na!,cP!,eg!] (dz! 4) (by exact hc) (wE (zc 3)) (xB 1 2 (by exact hc) ztR) (xy 1 2 (by decide) (by rfl) (by rfl)) (wS (eI! aI! Q!)) H!)) (he:=(zH ..)))) (zp (kK! 5 (fO! (bb! [qD!,na!,dL!,eg!] (hj! 6 4 1) (by exact hc) (g7! (by rfl) (aZ! 2)) (zS (i:=3) zul (by rfl) (by first | exact bv! | exact bH!)) (zN 3 (by rfl)) (wS (RW.rt (w_and (yc d9! (hh! (zc 3)) Q!) (zgz (eI! (zc 3) H!))))) (zc 3)))))) yE) (d6! (zck 7 [oa!,eg!] (au! 5) rv! hc (g7! (by rfl) (aZ! 2)) (e5! (zS (i:=1) zuH (by rfl) (by first | exact bv! | exact bH!))) (zN 1 (by rfl)) (e5! (wS (eI! H! Q!))) (e5! H!)) (do! (yc ztT Q! (wB (kG! zh))) (kK! 7 (vQ (aZ! 4)))) (d6! (kK! 8 (zE zoA (z7C eU!) aI!)) (kz _E hc (wE (zc 7)) (uG 9 rv!) (zp (do! (yc zo2 (hP! (zc 5)) zq) (z0A (zE zhi (hP! (zc 9)) (hP! (zc 5))) (zc 8) (zc 9))))) (d6! (zck 10 [qE!,dL!,oa!,eg!,cP!] [b! 8,b! 1,b! 5,a!,a!] rv! hc (zbB (by rfl) T.f6 a1!) (e5! (xB 3 4 (by exact hc) zuG)) (xy 3 4 (by decide) (by rfl) (by rfl)) (e5! ye) (e5! (zE z6s (zc 4) (zE uB (xK Q! (zc 3)) (hP! aI!))))) (kK! 11 (z7C zh)) (gL! (kz _E hc (g7! (by rfl) (aZ! 2)) (uG 9 rv!) (zi (znj 12 [eg!,"_law_column"] (au! 9) rv! hc (g7! (by rfl) (aZ! 2)) (e5! (zS (i:=1) zqW (by rfl) (by first | exact bv! | exact bH!))) (zN 1 (by rfl)) (e5! ye) (e5! (yr zmz (by rfl) T.f7 zbe (aM (uz d9! Q! H!) zh) (he:=(z4X ..))))) (d6! (z0A (bE! (xK (zc 12) (zc 5)) (xK (zc 8) (zc 9))) (zc 12) (zc 5)) (do! (yc d9! Q! xF) (kK! 12 (bE! (yK (zc 12) (xx zq) xO) (yK (zc 12) xO (xx zq))))) (zp (wN (kB (zc 11) (yr yV (by rfl) T.f17 ya (aZ! 12) (he:=(zu ..))))))))) (do! (yc d9! Q! xF) (kK! 10 (bE! (yK (zc 10) (xx zq) xO) (yK (zc 10) xO (xx zq))))) (wB (aQ (yr yV (by rfl) T.f17 ya (aZ! 10) (he:=(zu ..))) (cH! (yr yV (by rfl) T.f17 ya (aZ! 11) (he:=(zu ..)))))))))))))) (by trivial)).tidy
instance zin:ae! "_law_ended" 1 Pg.xw:= ca! 18 z8M (have hu:=hr.units;(fd! (uz d9! (zF vh (by rfl) T.f9 yW (cG! (bb! [cP!] [a!] (by exact hc) iQ! (zS (i:=0) ztq (by rfl) (by first | exact bv! | exact bH!)) (zN 0 (by rfl)) (wS (yc zo2 Q! zq)) Q!)) (he:=(zH ..))) zq))) (by trivial)
instance zig:ae! "_law_plain" 1 Pg.xu:= ca! 19 z9q (have hu:=hr.units;(fd! (yr yV (by rfl) T.f17 ya (cG! (bb! [fu!,fX!] (au! 0) (by exact hc) (g7! (by rfl) bD!) (zS (i:=1) zu4 (by rfl) (by first | exact bv! | exact bH!)) (zN 1 (by rfl)) ye (yr yV (by rfl) T.f17 ya (cG! (bb! [fX!,"_law_column"] b4! (by exact hc) (g7! (by rfl) bD!) (zS (i:=1) zu9 (by rfl) (by first | exact bv! | exact bH!)) (zN 1 (by rfl)) ye (yr zmz (by rfl) T.f7 zbe (aM (uz d9! Q! H!) zh) (he:=(z4X ..))))) (he:=(zH ..))))) (he:=(zH ..))))) (by trivial)
instance zl8:ae! "_law_led" 1 Pg.z7V:= (ca! 20 vW (gL! (zR 2 vW.nd (z7C zh)) (kz _E hc iQ! (uG 3 vW.nd) (d6! (zR 4 vW.nd zq) (kz _E hc (mv! (by rfl) (kg! 3)) (z24 5 6 hc vW.nd) (zp (zR 4 vW.nd (bE! (zc 4) (zE uB (zc 5) (zc 6)))))) (zp (wN (kB aI! (zc 4)))))) (yr yV (by rfl) T.f17 ya (aZ! 2) (he:=(zu ..)))) (by trivial)).tidy
instance zli:ae! "_law_dot" 1 Pg.vR:= ca! 21 kD (gL! (zR 2 kD.nd zq) (kz _E hc (mv! (by rfl) (kg! 0)) (z24 3 4 hc kD.nd) (zp (zR 2 kD.nd (bE! aI! (zE uB (zc 3) (zc 4)))))) aI!) (by trivial)
instance zie:ae! "_law_whole" 1 Pg.vf:= fQ! 22 z9h (fd! (kW! (hN! (by decide) zbe (by rfl) (by rfl) T.f7 Q!) (zoU (hN! (by decide) z6x (by rfl) (by rfl) T.f5 Q!)))) (by trivial)
instance zl0:ae! "_law_gcd" 1 Pg.qd:= ca! 23 qf (have hu:=hr.units;(gL! (zR 1 qf.nd zq) (kz _E hc iQ! (uG 2 qf.nd) (zi (zR 3 qf.nd aI!) (zp (z68 _E (eI! (zc 3) zq) (zp (zq9 1 3 hc qf.nd (kw! 3 (aB (zE zcC H! (zc 3)) zh)))))))) H!)) (by trivial)
instance zfs:HsH P w K mg P! CX0 "_law_kind_of" 1 wL:= zof (g1! 24) yC (λhr=> have hu:=hr.units;(d6! (zR 1 pr! (vQ (aQ (hQ! (by decide) (by rfl) (by rfl)) (aQ (hQ! (by decide) (by rfl) (by rfl)) (aQ (hQ! (by decide) (by rfl) (by rfl)) (cH! (hQ! (by decide) (by rfl) (by rfl)))))))) (zR 1 pr! (bE! H! (vQ (aQ (hQ! (by decide) (by rfl) (by rfl)) (aQ (hQ! (by decide) (by rfl) (by rfl)) (aQ (hQ! (by decide) (by rfl) (by rfl)) (cH! (hQ! (by decide) (by rfl) (by rfl))))))))) (d6! (zR 1 pr! (bE! H! (vQ (aQ (hQ! (by decide) (by rfl) (by rfl)) (aQ (hQ! (by decide) (by rfl) (by rfl)) (aQ (hQ! (by decide) (by rfl) (by rfl)) (cH! (hQ! (by decide) (by rfl) (by rfl))))))))) (zR 1 pr! (bE! H! (vQ (aQ (hQ! (by decide) (by rfl) (by rfl)) (aQ (hQ! (by decide) (by rfl) (by rfl)) (aQ (hQ! (by decide) (by rfl) (by rfl)) (cH! (hQ! (by decide) (by rfl) (by rfl))))))))) (d6! (zR 1 pr! (bE! H! (vQ (cH! (hQ! (by decide) (by rfl) (by rfl)))))) (do! (oS! (eI! (zis H! za0) zq) (zaU (kZ (qL (zr1 T.FM (by rfl) T.f8 (by rfl) T.f2 Q!))))) (zQ xF)) (gL! (zR 2 pr! (vQ (aK xF (kG! (kG! (kG! (kG! zh))))))) (zR 2 pr! (bE! aI! (vQ (kG! (kG! (kG! (kG! zh))))))) (hh! (zjK H! za0))))))) (by trivial)
instance zih:ae! "are_wholes" 2 Pg.yd:= ca! 25 z9d (have hu:=hr.units;(gF! (do! (oS! (kZ (qL (hN! (by decide) ya (by rfl) (by rfl) pq! Q!))) (zaU (eI! (zF vh (by rfl) T.f9 yW bD! (he:=(zu ..))) H!))) (zQ za0)) (zF (zjn (by exact hc)) (by rfl) T.f4 zdg (cG! (bb! ["part"] [a!] (by exact hc) iQ! (zS (i:=0) zs7 (by rfl) (by first | exact bv! | exact bH!)) (zN 0 (by rfl)) ye hK!)) (he:=(zH ..))))) (by trivial)
instance zgn:ae! "lines_times" 2 Pg.xE:= ca! 26 z7D (fd! (yr yV (by rfl) T.f17 ya (cG! (bb! [kp!,d3!] b4! (by exact hc) iQ! (zS (i:=1) zs8 (by rfl) (by first | exact bv! | exact bH!)) (zN 1 (by rfl)) ye (ey! 1 bD!))) (he:=(zH ..)))) (by trivial)
theorem uo(k:Nat) (Hr:ae! "number_of" (k+1) (Pg.yD k)):ae! "number_of" (k+1+1) (Pg.yD (k+1)):= ca! 27 zbS (have hu:=hr.units;(gF! (do! (yc d9! (zF vh (by rfl) T.f9 yW bD! (he:=(zu ..))) zq) (zQ (fO! (fO! Q!)))) (zF (zpP (by exact hc)) (by rfl) T.f16 zkR (cG! (bb! [i8!,lj!,iy!] (dz! 0) (by exact hc) (zbB (by rfl) T.f6 (aS (fO! Q!) zh)) (xB 1 2 (by exact hc) zrQ) (xy 1 2 (by decide) (by rfl) (by rfl)) ye (zE uB (zE uB (iB! (f7! a1!)) aI!) (r_k hr (cH! (cl! (f7! a1!))) (he:=(xL ..)))))) (he:=(zH ..))))) (by trivial)
instance zjb:ae! "number_of" 5 Pg.xA:= uo 3 (uo 2 (uo 1 (uo 0 (zpk (ps:=[i8!]) (g1! 27) (by trivial) 1))))
instance zm3:ae! mM! 2 Pg.qr:= ca! 28 z83 (gF! (zc6 hK! (z24 1 2 hc z83.nd)) (wB (aQ (zcW aI! (zF (z3K (by exact hc)) (by rfl) T.f11 z22 (aZ! 2) (he:=(zu ..)))) (aL (vQ a1!) zh)))) (by trivial)
instance zkx:ae! mN! 2 Pg.vT:= ca! 29 z6r (gF! (zc6 hK! (z24 1 2 hc z6r.nd)) (wB (aQ (ey! 2 zh) (aL (vQ a1!) zh)))) (by trivial)
instance zo1:ae! mO! 2 Pg.kj:= fQ! 30 zaH (gF! (zR 1 zaH.nd hK!) (wB (aN H! (cH! (cl! a1!))))) (by trivial)
instance zmk:ae! mP! 2 Pg.qA:= fQ! 31 zf6 (have hu:=hr.units;(gF! (do! (yc d9! (fO! Q!) zq) (zQ (wB (f7! (aL (vQ zh) zh))))) (wB (f7! (cH! (cl! eU!)))))) (by trivial)
instance zil:f1! P w K mg dA! "want_rule" 2 Pg.ub:= qG (g1! 32) z4a (oi! (zp (do! (kZ (qL (q8! zeL bD!))) (z8F T.E_NoRule z55 hc (by rfl))))) (by trivial)
instance zk3:ae! "want_rule" 2 Pg.ua:= fQ! 32 z4a (zp (do! (kZ (qL hK!)) z5D)) (by trivial)
instance zkp:ae! "_law_lot" 2 Pg.z0W:= (ca! 33 wf (have hu:=hr.units;(zi (zR 1 ps! (bE! zq (cl! eU!))) (d6! (zR 2 ps! (xK (vQ (f7! (f7! (aB (zE zeV zq zq) (aB (zE zeV zq zq) mE!))))) (cl! eU!))) (zR 3 ps! (cl! eU!)) (d6! (zR 4 ps! (z7C zh)) (kz _E hc (g7! (by rfl) a1!) (uG 5 ps!) (zi (zR 6 ps! (ke! (cl! (aZ! 2)))) (zp (wN (kB (zc 4) (zE uB (zc 6) (yr zmz (by rfl) T.f7 zbe (aM (uz zsS (cl! eU!) (zc 3)) zh) (he:=(z4X ..))))))))) (d6! (do! (yc d9! (zF (z3K (by exact hc)) (by rfl) T.f11 z22 (aZ! 4) (he:=(zu ..))) zq) (z0A (bE! zq (cl! (aZ! 2))) (zc 4) (cl! a1!))) (zR 7 ps! (bE! zq (cl! eU!))) (gL! (do! (yc d9! (cl! eU!) zq) (z0A (xK (zc 4) (cl! a1!)) (zc 4) (cl! a1!))) (do! (yc d9! (zF (z3K (by exact hc)) (by rfl) T.f11 z22 (aZ! 4) (he:=(zu ..))) zq) (z0A zq (zc 4) zq)) (yr yV (by rfl) T.f17 ya (cG! (bb! [ll!,cP!] (au! 7) (by exact hc) (wE (zc 4)) (zS (i:=1) zto (by rfl) (by first | exact bv! | exact bH!)) (zN 1 (by rfl)) ye (zE uB H! Q!))) (he:=(zH ..))))))))) (by trivial)).tidy
instance zlc:ae! "_law_run" 2 Pg.ku:= ca! 34 jU (zi (zR 2 jU.nd (z7C a1!)) (gL! (zR 3 jU.nd (z7C zh)) (z68 _E (kZ (qL (r_k hr (aS (hh! ka!) zh) (he:=(z0T ..))))) (d6! (zc6 (cl! (aS (hh! ka!) zh)) (z24 4 5 hc jU.nd)) (wN (kB aI! (zc 4))) (zp (wN (kB (zc 3) (zc 5)))))) (wB (kw! 2 (aZ! 3))))) (by trivial)
instance zfo:ae! "_law_product" 2 Pg.jo:= ca! 35 qt (gL! (zR 2 qt.nd (zF vh (by rfl) T.f9 yW bD! (he:=(zu ..)))) (zR 3 qt.nd (bb! [d4!,dK!,ev!] (eX! 0 1) (by exact hc) (g7! (by rfl) (aZ! 2)) (zS (i:=2) zsM (by rfl) (by first | exact bv! | exact bH!)) (zN 2 (by rfl)) ye (cl! (cG! (bb! [ev!,fX!] (au! 2) (by exact hc) (wE H!) (zS (i:=1) zob (by rfl) (by first | exact bv! | exact bH!)) (zN 1 (by rfl)) ye (hP! Q!)))))) (yr yV (by rfl) T.f17 ya (cG! (bb! [qC!,ev!] (au! 3) (by exact hc) (g7! (by rfl) (aZ! 2)) (zS (i:=1) zrA (by rfl) (by first | exact bv! | exact bH!)) (zN 1 (by rfl)) ye (yr yV (by rfl) T.f17 ya (cG! (bb! [ev!,"_law_side"] b4! (by exact hc) iQ! (zS (i:=1) zts (by rfl) (by first | exact bv! | exact bH!)) (zN 1 (by rfl)) ye (hP! Q!))) (he:=(zH ..))))) (he:=(zH ..)))) (by trivial)
instance ziU:ae! "_law_back" 2 qD:= (ca! 36 yp (have hu:=hr.units;(d6! (zR 1 ku! (zF vh (by rfl) T.f9 yW bD! (he:=(zu ..)))) (zR 2 ku! (zem [fX!,n9!] iH! (by exact hc) (mv! (by rfl) (aN Q! (cH! (iB! a1!)))) (e5! (xB 0 1 (by exact hc) zsR)) (xy 0 1 (by decide) (by rfl) (by rfl)) (e5! ye) (e5! (bE! (yr zgc (by rfl) T.f10 z2X bD! (he:=(zu ..))) (yr zgc (by rfl) T.f10 z2X a1! (he:=(zu ..))))))) (gL! (kz _E hc (g7! (by rfl) a1!) (uG 3 ku!) (zp (z68 _E (eI! (bb! [ev!,fX!] (au! 3) (by exact hc) (wE (yK aI! (xx (ke! (zc 3))) xO)) (zS (i:=1) zob (by rfl) (by first | exact bv! | exact bH!)) (zN 1 (by rfl)) (wS (eI! (hP! Q!) zq)) H!) (vQ zh)) (zi (zck 4 [ev!,kr!,cP!] (eX! 3 2) ku! hc (zdI (by rfl) ru! (kg! 3)) (e5! (zS (i:=2) znn (by rfl) (by first | exact bv! | exact bH!))) (zN 2 (by rfl)) (e5! (wS (eI! (xK (hP! aI!) Q!) zq))) (e5! aI!)) (d6! (zR 5 ku! (fO! (fO! (zF znA (by rfl) T.f14 za6 (cG! (bb! [ev!,kr!,cP!] (eX! 3 2) (by exact hc) (wE (zc 4)) (zS (i:=2) znn (by rfl) (by first | exact bv! | exact bH!)) (zN 2 (by rfl)) ye (wB (aQ (zF zth (by rfl) T.f3 zoo (aS (xK (hP! aI!) Q!) zh) (he:=(z0T ..))) (aZ! 2))))) (he:=(zH ..)))))) (zR 6 ku! (hh! (zc 5))) (d6! (z0A (hh! (zc 3)) aI! (zc 5)) (z0A (zc 6) aI! (zc 3)) (zp (kz _E hc (zdI (by rfl) ru! (aB (ke! (zc 3)) a1!)) (uG 7 ku!) (zi (zR 8 ku! (zE znE (xK (hh! (zc 7)) (zc 3)) (xK (zc 6) (zc 3)))) (zp (z0A (bb! [iA!,qB!,n9!] (dz! 8) (by exact hc) (mv! (by rfl) (kw! 6 (aS (hh! (zc 7)) zh))) (xB 1 2 (by exact hc) zoL) (xy 1 2 (by decide) (by rfl) (by rfl)) ye (zE z6s aI! (zE zhF Q! H!))) aI! (zc 7)))))))))))) (kz _E hc (zpe (by rfl) ru! (aB (zE z6s H! zq) (aU ka! (aU ka! zh)))) (uG 3 ku!) (zi (z0A (bb! [ev!,kr!,cP!] (eX! 3 2) (by exact hc) (wE (hh! (zc 3))) (zS (i:=2) znn (by rfl) (by first | exact bv! | exact bH!)) (zN 2 (by rfl)) ye (zE zhF aI! (xK (hP! Q!) Q!))) aI! (zc 3)) (zp (kz _E hc (g7! (by rfl) (aZ! 3)) (uG 7 ku!) (d6! (zR 6 ku! (hh! (zc 3))) (zR 8 ku! (xK (hh! (zc 7)) (zc 3))) (zp (z0A (bb! [iA!,qB!,n9!] (dz! 8) (by exact hc) (mv! (by rfl) (kw! 6 (aS (hh! (zc 7)) zh))) (xB 1 2 (by exact hc) zoL) (xy 1 2 (by decide) (by rfl) (by rfl)) ye (zE z6s aI! (zE zhF Q! H!))) aI! (zc 7)))))))) (yr yV (by rfl) T.f17 ya (cG! (bb! [fu!,fX!] b4! (by exact hc) (wE aI!) (zS (i:=1) zu4 (by rfl) (by first | exact bv! | exact bH!)) (zN 1 (by rfl)) ye (yr yV (by rfl) T.f17 ya (aS (yK H! (xx Q!) xO) zh) (he:=(z0T ..))))) (he:=(zH ..)))))) (by trivial)).tidy
instance ze6:ae! "_law_are_whole" 2 Pg.yJ:= ca! 37 z33 (have hu:=hr.units;(fd! (z3n (hN! (by decide) ya (by rfl) (by rfl) pq! Q!) (kW! (uz d9! (zF vh (by rfl) T.f9 yW bD! (he:=(zu ..))) H!) (zF (zjn (by exact hc)) (by rfl) T.f4 zdg (cG! (bb! [d4!] [a!] (by exact hc) iQ! (zS (i:=0) zss (by rfl) (by first | exact bv! | exact bH!)) (zN 0 (by rfl)) ye hK!)) (he:=(zH ..))))))) (by trivial)
instance zfq:ae! "_law_no_rule" 2 Pg.ut:= fQ! 38 z0r (gF! (zR 2 z0r.nd (vQ (aQ (zlV H!) (aB (zE zky H! xF) (aS (ziP H! (xx zq)) (aB (zE zky H! xF) (aK xF (aK zk1 (f7! (aT (wB a1!) (aL (vQ a1!) (aK za0 (qV zoj zh (by rfl)))))))))))))) (hh! (cl! eU!))) (by trivial)
instance zh5:ae! "_law_is_lot" 2 Pg.yA:= ca! 39 z18 (gL! (do! (oS! (kZ (qL (hN! (by decide) ya (by rfl) (by rfl) pq! Q!))) (zaU (yc zmH (zF vh (by rfl) T.f9 yW bD! (he:=(zu ..))) (wB (f7! mE!))))) (zQ za0)) (kz _E hc iQ! (uG 1 z18.nd) (zp (do! (oS! (kZ (qL (iB! a1!))) (zaU (yc ztZ H! zq))) (zQ za0)))) (uz zo2 (zF (z3K (by exact hc)) (by rfl) T.f11 z22 bD! (he:=(zu ..))) zq)) (by trivial)
instance zlf:ae! "_law_odd" 2 Pg.vO:= fQ! 40 z5Z (gF! (by refine zR (i:=1) (hN:=?_) (he:=?_) (hi:=?_) (hx:=?_) (hs:=?_) (hf:=?_);exact z5Z.nd;exact (vQ (aK zk1 (aK za0 (aK za0 (aU ka! (f7! (f7! (aB (zE zeV zq zq) (kG! (aT (wB zh) (aT (wB mE!) (aT (wB eU!) (aL (vQ mE!) (qV zoj zh (by rfl)))))))))))))));rfl;(first | exact bv! | exact bH!);rfl;(first | exact cT! | exact R! rfl | assumption)) (xK (bE! H! (vQ (aT (wB (aT (wB mE!) (aT (wB mE!) zh))) (aT (wB (aK za0 eU!)) zh)))) (cl! eU!))) (by trivial)
theorem wI(k:Nat) (Hr:ae! "_law_same" (k+1) (Pg.zU k)):ae! "_law_same" (k+1+1) (Pg.zU (k+1)):= ca! 41 zbY (have hu:=hr.units;(gL! (z02 (qL (zs5 (by decide) (by decide) z2X ya (by rfl) T.f8 (by rfl) T.f10 (by rfl) pq! H!)) (gF! (do! (oS! (eI! (hN! (by decide) z2X (by rfl) (by rfl) T.f10 H!) (hN! (by decide) z2X (by rfl) (by rfl) T.f10 Q!)) (zaU (eI! (hN! (by decide) ya (by rfl) (by rfl) pq! H!) (hN! (by decide) ya (by rfl) (by rfl) pq! Q!)))) (zQ za0)) (kW! (uz d9! (zF vh (by rfl) T.f9 yW bD! (he:=(zu ..))) (zF vh (by rfl) T.f9 yW a1! (he:=(zu ..)))) (zF (zjn (by exact hc)) (by rfl) T.f4 zdg (cG! (bb! [d4!,dK!] iH! (by exact hc) (mv! (by rfl) (kg! 0)) (xB 0 1 (by exact hc) zsH) (xy 0 1 (by decide) (by rfl) (by rfl)) ye (cl! a1!))) (he:=(zH ..))))) yE) (do! (oS! (yc ztE H! zk1) (zk4 (qL (hN! (by decide) z6x (by rfl) (by rfl) T.f5 H!)) (zaU (qL (hN! (by decide) zl2 (by rfl) (by rfl) T.f15 H!))))) (zQ (kW! (uz d9! Q! H!) (uz d9! (hN! (by decide) z6x (by rfl) (by rfl) T.f5 Q!) (hN! (by decide) z6x (by rfl) (by rfl) T.f5 H!))))) (kW! hK! (uz d9! Q! H!)))) (by trivial)
instance zje:ae! "_law_same" 6 Pg.km:= wI 4 (wI 3 (wI 2 (wI 1 (wI 0 (zpk (ps:=[hy!,oc!]) (g1! 41) (by trivial) 1)))))
instance znU:ae! "is_lot" 3 Pg.yt:= ca! 42 zfY (gF! (do! (oS! (kZ (qL hK!)) (zaU (kZ (qL (cl! (cH! (zF vh (by rfl) T.f9 yW bD! (he:=(zu ..))))))))) (zQ za0)) (kW! (uz zsS (zF (zkF (by exact hc)) (by rfl) T.f12 zhd bD! (he:=(zu ..))) zq) (uz zo2 (zF (z3K (by exact hc)) (by rfl) T.f11 z22 bD! (he:=(zu ..))) zq))) (by trivial)
instance zlz:ae! "is_table" 3 Pg.vP:= ca! 43 zcF (gF! (do! (kZ (qL hK!)) (zQ za0)) (zF (zjn (by exact hc)) (by rfl) T.f4 zdg (cG! (bb! [ko!,d3!] (au! 0) (by exact hc) iQ! (zS (i:=1) zsF (by rfl) (by first | exact bv! | exact bH!)) (zN 1 (by rfl)) ye (ey! 1 (cH! (zF vh (by rfl) T.f9 yW bD! (he:=(zu ..))))))) (he:=(zH ..)))) (by trivial)
instance zkn:ae! "division" 3 Pg.vg:= ca! 44 z1J (gL! (zR 2 z1J.nd (zrk T.T_RULES (by rfl) Q! (λ_ _=>rfl))) (zc6 (zne (n:=2) 2 (jN (qR! (hr.has mM!) (by decide)) (jN (qR! (hr.has mN!) (by decide)) (jN (qR! (hr.has mO!) (by decide)) (jN (qR! (hr.has mP!) (by decide)) zdl)))) (hr.mono (by decide)) zjx a1! (he:=(zu ..))) (z24 3 4 hc z1J.nd)) (wB (kw! 3 (cG! (bb! ["divided",az!,gY!,"at"] (hj! 4 1 3) (by exact hc) (g7! (by rfl) (cH! (zF vh (by rfl) T.f9 yW a1! (he:=(zu ..))))) (zS (i:=3) zrH (by rfl) (by first | exact bv! | exact bH!)) (zN 3 (by rfl)) ye (zqw (yc ztT (zc 3) Q!) (zE zhi (hP! (zc 3)) (hP! aI!)) zq)))))) (by trivial)
instance zlL:ae! "come_to" 3 Pg.wO:= fQ! 45 zeK (have hu:=hr.units;(fd! (kW! (ey! 1 (cH! (zF vh (by rfl) T.f9 yW bD! (he:=(zu ..))))) (uz d9! (ey! 1 bD!) aI!)))) (by trivial)
instance ziq:ae! "_law_lines" 3 uC:= (ca! 46 xz (have hu:=hr.units;(zi (zc6 (cl! a1!) (z24 2 3 hc qS!)) (d6! (zR 4 qS! (r_k hr (cH! (zF vh (by rfl) T.f9 yW a1! (he:=(zu ..)))) (he:=(xL ..)))) (kz _E hc (wE (zc 3)) (uG 5 qS!) (zp (zR 4 qS! (ey! 4 (aZ! 5))))) (gL! (zR 6 qS! (ey! 4 zh)) (zR 7 qS! (fO! (bb! [eg!,cP!] iH! (by exact hc) (zbB (by rfl) T.f6 (aS (hh! ka!) zh)) (xB 0 1 (by exact hc) ztB) (xy 0 1 (by decide) (by rfl) (by rfl)) (wS (yc zo2 H! zq)) Q!))) (bE! (vQ (aS (xK (zc 6) (zc 7)) zh)) (bb! [ev!,eg!,fX!] (dz! 7) (by exact hc) (zbB (by rfl) T.f6 (aZ! 6)) (xB 1 2 (by exact hc) zuF) (xy 1 2 (by decide) (by rfl) (by rfl)) (wS (eI! H! Q!)) aI!)))))) (by trivial)).tidy
instance ziK:ae! "_law_bent" 3 oh!:= fQ! 47 wY (zi (zR 2 wY.nd (cl! (cH! (zF vh (by rfl) T.f9 yW a1! (he:=(zu ..)))))) (d6! (zR 3 wY.nd (vQ (aB (ke! (hP! aI!)) (aB (zE z6s (hP! aI!) zq) (aB (zE z6s zq (hP! aI!)) (f7! (aK za0 (aK zk1 (aK xF (aT (wB eU!) (aB (zE zeV zq zq) (aS (hP! (zE z6s aI! zq)) zh)))))))))))) (zR 3 wY.nd (xK (zc 3) (cl! eU!))) (gL! (zR 4 wY.nd (vQ (aB (bE! (bE! (yK H! xO (xx aI!)) (wB (aZ! 3))) (yK H! (xx (ke! aI!)) xO)) (aB (bE! (bE! (yK H! xO (xx aI!)) (wB (aZ! 3))) (yK H! (xx (ke! aI!)) xO)) (aB (bE! (yK H! xO (xx aI!)) (yK H! (xx (ke! aI!)) xO)) (cH! (yr zgc (by rfl) T.f10 z2X a1! (he:=(zu ..))))))))) (zR 4 wY.nd (bE! (zc 4) (vQ (aB (bE! (bE! (yK H! xO (xx aI!)) (wB eU!)) (yK H! (xx aI!) xO)) (aS (ztr H!) (aB (bE! H! H!) (aB (zE zqc (wB eU!) (zF vh (by rfl) T.f9 yW a1! (he:=(zu ..)))) (aQ hK! (aT (wB a1!) zh))))))))) (xK (zc 4) (cl! eU!))))) (by trivial)
instance zjs:f1! P w K mg dA! "want_lot" 4 Pg.xQ:= qG (g1! 48) z5C (oi! (zp (do! (kZ (qL (q8! zeL bD!))) (z8F T.E_NoLot z55 hc (by rfl))))) (by trivial)
instance zlD:ae! "want_lot" 4 Pg.xo:= fQ! 48 z5C (zp (do! (kZ (qL hK!)) z5D)) (by trivial)
instance zgJ:f1! P w K mg dA! "want_table" 4 Pg.z0j:= qG (g1! 49) z2x (oi! (zp (do! (kZ (qL (q8! zeL bD!))) (z8F T.E_NoTable z55 hc (by rfl))))) (by trivial)
instance zii:ae! "want_table" 4 Pg.yF:= fQ! 49 z2x (zp (do! (kZ (qL hK!)) z5D)) (by trivial)
instance zng:f1! P w K mg dA! "common" 5 Pg.z5i:= qG (g1! 50) z1Z (oi! (zi (wN (j7! bD!)) (d6! (kN (zR 1 z1Z.nd zq)) (kN (kz _E hc iQ! (uG 2 z1Z.nd) (zp (zR 1 z1Z.nd (ey! 1 (aZ! 2)))))) (zp (kN (zQ H!)))))) (by trivial)
instance zju:ae! "has_ended" 5 Pg.xD:= ca! 51 zbl (have hu:=hr.units;(gF! (wN hK!) (uz d9! (zF vh (by rfl) T.f9 yW (cG! (bb! [iy!] [a!] (by exact hc) iQ! (zS (i:=0) zo9 (by rfl) (by first | exact bv! | exact bH!)) (zN 0 (by rfl)) (wS (eI! Q! zq)) Q!)) (he:=(zH ..))) zq))) (by trivial)
instance zif:ae! "multiplied" 5 Pg.va:= ca! 52 z9I (have hu:=hr.units;(zi (wN hK!) (gL! (wN (iB! a1!)) (do! (eI! (zF vh (by rfl) T.f9 yW bD! (he:=(zu ..))) (zF vh (by rfl) T.f9 yW a1! (he:=(zu ..)))) z5D) (r_k hr (cH! (yr yV (by rfl) T.f17 ya (cG! (bb! ["one",lj!] (au! 0) (by exact hc) (wE (iB! a1!)) (zS (i:=1) zsn (by rfl) (by first | exact bv! | exact bH!)) (zN 1 (by rfl)) ye (cl! a1!))) (he:=(zH ..)))) (he:=(xL ..)))))) (by trivial)
instance zi7:f1! P w K mg dA! "one_number" 6 Pg.z0m:= qG (g1! 53) z9K (λhr _=> (zi (wN (j7! bD!)) (zp (kN (zQ hK!))))) (by trivial)
instance za1:f1! P w K mg dA! "want_rule_and_lot" 5 Pg.zB:= qG (g1! 54) uO (λhr _=> (zi (wN (j7! bD!)) (zp (wN (j7! a1!))))) (by trivial)
instance zbZ:ae! "want_rule_and_lot" 5 Pg.zY:= fQ! 54 uO (zi (wN hK!) (zp (wN (iB! a1!)))) (by trivial)
instance zfv:f1! P w K mg dA! "turned_back" 7 Pg.uW:= qG (g1! 55) jm (oi! (have hu:=hr.units;(zi (zR 1 jm.nd (j7! bD!)) (d6! (do! (RW.rt (w_and (eI! H! zq) (zgz (eI! H! ka!)))) (z8F T.E_NotFair z55 hc (by rfl))) (kN (zR 2 jm.nd (z6D (by exact hc) (by rfl) T.f10 (by rfl) ru! (cH! (zF vh (by rfl) T.f9 yW bD! (he:=(zu ..))))))) (zp (kN (zQ (yr yV (by rfl) T.f17 ya (cG! (bb! [lk!,n8!,ef!,d3!] (hj! 2 1 0) (by exact hc) (wE aI!) (zS (i:=3) zqS (by rfl) (by first | exact bv! | exact bH!)) (zN 3 (by rfl)) ye (yr yV (by rfl) T.f17 ya (cG! (bb! [n8!,d3!,ef!,lj!] (hj! 1 3 2) (by exact hc) iQ! (zS (i:=3) ztg (by rfl) (by first | exact bv! | exact bH!)) (zN 3 (by rfl)) ye (zE uB (zE uB Q! (ey! 1 (aZ! 3))) (r_k hr (cH! (ey! 2 (kg! 3))) (he:=(xL ..)))))) (he:=(zH ..))))) (he:=(zH ..)))))))))) (by trivial)
instance zau:f1! P w K mg dA! "growing_products" 6 Pg.wc:= qG (g1! 56) wW (oi! (d6! (kN (zR 2 wW.nd (z7C (cH! hK!)))) (kN (kz _E hc (wE H!) (uG 3 wW.nd) (zp (wN (kB aI! (r_k hr (aS (hh! ka!) (aZ! 3)) (he:=(z0T ..)))))))) (zp (kN (zQ aI!))))) (by trivial)
instance zkk:ae! "want_step" 6 Pg.wq:= fQ! 57 zbA (zi (wN (cl! a1!)) (zp (do! (qL (iB! a1!)) z5D))) (by trivial)
instance zfu:f1! P w K mg dA! mQ! 6 Pg.yP:= qG (g1! 58) z7l (λhr _=> (gF! (wN (j7! bD!)) (q8! zeL (aN Q! (aN H! (cH! (j7! bD!))))))) (by trivial)
instance zqG:ae! "step" 7 Pg.M_step:= ca! 59 zcp (zi (wN (cl! a1!)) (gL! (zc6 (cl! a1!) (z24 2 3 hc zcp.nd)) (zR 4 zcp.nd (yr yV (by rfl) T.f17 ya (cG! (bb! [az!,gY!,iy!,"quotient"] (fh! 1 2 a!) (by exact hc) (mv! (by rfl) (aN H! (aZ! 3))) (xB 2 3 (by exact hc) zsa) (xy 2 3 (by decide) (by rfl) (by rfl)) ye (zE z6s aI! (zE uB (zc 3) (xK Q! H!))))) (he:=(zH ..)))) (cl! (aZ! 4)))) (by trivial)
instance zib:ae! "step_table" 7 Pg.vb:= ca! 60 z2g (gL! (wN (cl! a1!)) (zc6 (cl! a1!) (z24 2 3 hc z2g.nd)) (yr yV (by rfl) T.f17 ya (cG! (bb! [cZ!,gY!,d3!,"quotient"] (fh! 0 2 a!) (by exact hc) (mv! (by rfl) (aQ (r_k hr (cH! (zF vh (by rfl) T.f9 yW a1! (he:=(zu ..)))) (he:=(xL ..))) (aZ! 3))) (xB 2 3 (by exact hc) ztv) (xy 2 3 (by decide) (by rfl) (by rfl)) ye (cl! (aB (bE! (bE! (yK aI! xO (xx H!)) (wB (aB (bE! (hh! H!) (zc 3)) zh))) (yK aI! (xx (ke! H!)) xO)) zh)))) (he:=(zH ..)))) (by trivial)
instance zqD:f1! P w K mg dA! "run" 8 Pg.X_run:= qG (g1! 61) zku (λhr _=> (zi (wN (j7! (kg! 0))) (d6! (kN (zR 2 zku.nd (z7C a1!))) (kN (z68 _E (kZ (qL (r_k hr (aS (hh! ka!) zh) (he:=(z0T ..))))) (zp (wN (kB aI! (cl! (aS (hh! ka!) zh))))))) (zp (kN (zQ aI!)))))) (by trivial)
instance zio:f1! P w K mg dA! "tables_of" 9 Pg.xH:= qG (g1! 62) za8 (oi! (fd! (zem [cZ!,"ahead"] (au! 0) (by exact hc) (wE (yK (zhH (j7! (kg! 0))) xO (xx ka!))) (e5! (zS (i:=1) zrG (by rfl) (by first | exact bv! | exact bH!))) (zN 1 (by rfl)) (e5! ye) (e5! (q8! zeL (kg! 0)))))) (by trivial)
instance zfr:f1! P w K mg dA! "products_of" 10 Pg.yQ:= qG (g1! 63) z1x (λhr _=> (gF! (zR 2 z1x.nd (zhH (j7! (kg! 0)))) (z7E hr z1G (aQ (zF vh (by rfl) T.f9 yW a1! (he:=(zu ..))) (aZ! 2)) (he:=(xL ..))))) (by trivial)
instance zfn:f1! P w K mg dA! "whole_table" 11 Pg.xa:= qG (g1! 64) z7y (λhr _=> (fd! (xK (zhH (j7! (kg! 0))) ka!))) (by trivial)
instance zge:f1! P w K mg dA! "lines_back" 12 Pg.yX:= qG (g1! 65) z9t (λhr _=> (fd! (z7E hr z1G (cH! (j7! (kg! 0))) (he:=(xL ..))))) (by trivial)
instance zla:f1! P w K mg dA! mR! 13 Pg.vA:= qG (g1! 66) zf7 (oi! (have hu:=hr.units;(fd! (fO! (bb! [az!,d3!] b4! (by exact hc) (wE (j7! (kg! 0))) (zS (i:=1) ztk (by rfl) (by first | exact bv! | exact bH!)) (zN 1 (by rfl)) (wS (eI! (q8! zeL (aN H! bD!)) zq)) H!))))) (by trivial)
instance zjo:ae! "_law_told" 14 zI:= fQ! 67 z3Q (zp (zsf rfl rfl rfl T.KS (by rfl) z3Q.nd (by rfl) (by rfl) (λpn xe E1 hp=>(fd! (znQ (n:=13) (jN (qR! (hr.hasX mR!) (by decide)) (jN (qR! (hr.hasX mQ!) (by decide)) zdl)) (hr.mono (by decide)) hp (xK (vQ (qV (zq5 (hr.hasX mR!) (by rfl)) (qV (zq5 (hr.hasX mQ!) (by rfl)) zh (zu ..)) (zu ..))) Q!) (aN H! (aZ! 2)) (he:=(zu ..))))) (λe pn=>(fd! (znt (hr.hasH "_law_kind_of") (zsE (hr.r.h.mono (by decide))) zjx (by rfl) (aZ! 3) (he:=(zu ..))))))) (by trivial)
theorem zer{f:Addr} {fd:FuncData} (F:Fun K "law" "law" z7O f fd):z99 P w K mg P! CX0 15 f fd [l1!] (ziQ ⟨mg,K⟩ zn9):= zoR F qZ rfl λaj A outer s H E hr hc=>by
  have hr:Rm P w K mg P! 14 _:=⟨hr⟩;have hu:=hr.units;refine zi ?_ ?_
  ·refine kz _E hc (g7! (by rfl) (cH! (zF (zqv (by exact hc)) (by rfl) T.f11 z22 (f7! (cH! (zF (zpy (by exact hc)) (by rfl) T.f12 zhd (aQ (zF vh (by rfl) T.f9 yW bD! (he:=(zu ..))) eU!) (he:=(xL ..))))) (he:=(z8p ..))))) (uG 1 qZ.nd) ?_;refine zi ?_ ?_;·exact (mD! 2 (r_k hr (cH! (cl! a1!)) (he:=(xL ..))))
   refine zi ?_ ?_;·exact (mD! 3 (ey! 2 zh))
   refine zi ?_ ?_;·exact (mD! 4 (xK (zmo (hr.has "_law_rules") (hr.mono (by decide)) zjx (by rfl)) (ey! 2 eU!)))
   refine zi ?_ ?_;·exact (mD! 5 (ey! 4 (aZ! 3)))
   refine zi ?_ ?_
   ·refine kz _E hc (g7! (by rfl) eU!) (uG 6 qZ.nd) ?_;refine zp ?_;refine z02 (kZ (qL (r_k hr (aQ (iB! (f7! (kw! 4 (aZ! 3)))) (aS (fO! (zc 5)) zh)) (he:=(xL ..))))) ?_ ?_
    ·refine zp ?_;exact (zQ za0)
    ·exact yE
   refine zi ?_ ?_;·exact (mD! 7 (zE z6s (ey! 2 eU!) zq))
   refine zi ?_ ?_;·exact (mD! 8 (xK (zc 5) (bE! zq (ey! 2 (aB (zE z6s (zF vh (by rfl) T.f9 yW (aZ! 3) (he:=(zu ..))) zq) zh)))))
   refine zi ?_ ?_;·exact (mD! 9 (yr yV (by rfl) T.f17 ya (cG! (bb! [iA!,d4!,dK!] (dz! 7) (by exact hc) (mv! (by rfl) (aS (fO! (zc 5)) (aZ! 8))) (xB 1 2 (by exact hc) zuM) (xy 1 2 (by decide) (by rfl) (by rfl)) ye (bE! H! (zE uB Q! aI!)))) (he:=(zH ..))))
   refine zi ?_ ?_;·exact (mD! 10 (ey! 2 (aZ! 3)))
   refine zi ?_ ?_
   ·refine kz _E hc (wE (vQ (aS (fO! (zc 5)) (kw! 9 (aQ (ey! 2 (aS (fO! (zc 5)) zh)) (aQ (ey! 2 (aZ! 9)) (aS (fO! (zc 5)) (cH! (ey! 2 zh))))))))) (uG 11 qZ.nd) ?_;refine zi ?_ ?_;·exact (mD! 12 (kW! (ey! 11 (cH! (zF vh (by rfl) T.f9 yW (aZ! 3) (he:=(zu ..))))) (uz d9! (ey! 11 (aZ! 3)) (ey! 3 zh))))
    refine zp ?_;refine z02 (kZ (qL (r_k hr (aQ (iB! (f7! (kw! 3 (aZ! 11)))) (aZ! 12)) (he:=(xL ..))))) ?_ ?_
    ·refine zp ?_;exact (zQ za0)
    ·exact yE
   refine zi ?_ ?_;·exact (mD! 13 (ey! 2 (aZ! 4)))
   refine zi ?_ ?_
   ·refine z02 (oS! (eI! (iB! (f7! (kw! 13 (aZ! 3)))) xF) (zaU (eI! (iB! (f7! (kw! 13 (aZ! 10)))) xF))) ?_ ?_
    ·refine zp ?_;exact (zQ za0)
    ·exact yE
   refine zp ?_;refine z02 (RW.rt (w_and (kZ (qL (ey! 10 zh))) (zgz (eI! (vQ (aQ (iB! (f7! (kw! 4 (aZ! 10)))) (cH! (iB! (f7! (kw! 10 (aS (fO! (zc 5)) zh))))))) (zE zsw (vQ (aK xF zh)) zq))))) ?_ ?_
   ·refine zp ?_;exact (zQ za0)
   ·exact yE
  refine zp ?_;exact (zQ (kW! (uz d9! (iB! (f7! (aK xF (aT (wB mE!) zh)))) (wB mE!)) (uz ztE (iB! (f7! (aT (wB mE!) (aT (wB mE!) zh)))) za0)))
end
end aZ
namespace Po
open L2 Dd Pm Pg Pn
theorem zpa:LeM ziv X_run:=ra! (rH! zet) (qZ! (qZ! qP!))
theorem zes:LeM wd wc:=ra! qP! (qZ! qP!)
theorem zgl:∀ts:List Tb,c0! (ts.map tD)
 | []=>rfl | T::ts=>by simp only[_p,flC,flN,zgl ts,Bool.and_true];exact z8k T
section
variable {n m:Nat}{r:Rl}{v:g!}{ls:fC!}{d e:D}{c:Str}{s:Sto}
theorem x_run(r:Rl)(h:eJ!)(Rn:fP! v)(hm:m<=hA!)(hl:oO!)(s:Sto):X_run [by!,aw!] s=gG! (s++[pv!]):=zpa.ok (zre r h Rn hm hl s)
theorem zjr(h:zB [d,e] s=ec!):X_run [d,e] s=ec!:=by
 simp only[X_run,kT,zgS,st,_j,_l,_x];rw[zh1 (c:=c) (s':=s) (by exact zcJ (z5e (x:=d) (y:=e) x! x! h))]
theorem ziS(r:Rl) (h:eJ!) (Rn:fP! v) (hm:m<=hA!) (hl:oO!) (s:Sto):xH [by!,aw!] s=gG! (s++[eW!]):=by
 have key:hz! (d=by!->X_run [d,e] s=gG! (s++[pv!])->xH [d,e] s=gG! (s++[eW!])):=qO! (by
  have st:zx dh! [d,e]=hf!:=rfl;obtain⟨z,hz⟩:∃z,ls=ls.dropLast++[z]:=⟨ls.getLast Rn.ne,(List.dropLast_concat_getLast Rn.ne).symm⟩;have sl:eSl (z4A (cM! X_run)) zD (yy dQ!) hf! s=bw! (ls.dropLast.map rD):=by
   rw[zbH,(show z4A (cM! X_run) hf! s=bw! pv! from by rw[z2N,call2 (x:=d) (y:=e) x! x!,he,z9P])];simp only[Rb,qE,z1D,zg2,z00,dSl,Dd.listOf];have c:=zjv (ls.dropLast.map rD) (rD z);rw[show ls.dropLast.map rD++[rD z]=pv! from by rw[show [rD z]=fc! [z] from rfl,<- _ci,<- hz]]at c;rw[c]
  have fX:=zi9 h Rn;have ht:ls.dropLast.map (λa=>tD (jC r a))=eW!:=by simp[zK,_P]
  have c:=z6X (s:=s) (mp:=au! 0) (fg:=cc!) (fe:=cM! vb) rD (λa=>tD (jC r a)) (λa=>[i!,bX! a]) ls.dropLast (qU sl) (λa _=>by simp) (λa ha=>by
   rw[hd];exact (zbC r (fX a ha).1 (fX a ha).2 hm s)) (by simp[cap];lia) (by rw[ht];exact zgl _);simp only[xH,kT,kh,st,_j,_l,_x,ji,yo];rw[c,ht];rfl)
 exact key _ _ rfl (x_run r h Rn hm hl s)
theorem zcf(h:zB [d,e] s=ec!):xH [d,e] s=ec!:=by
 have st:zx dh! [d,e]=hf!:=rfl;simp only[xH,kT,kh,st,_j,_l,_x,ji,yo,zdj,uK,jq,zbH,(show z4A (cM! X_run) hf! s=ec! from by rw[z2N,z5e (x:=d) (y:=e) x! x! (zjr h)];rfl),R.bind_ex]
theorem zey(r:Rl) (h:eJ!) (Rn:fP! v) (hm:m<=hA!) (hl:oO!) (s:Sto):yQ [by!,aw!] s=gG! (s++[fA! (z3e bS! jg!)]):=by
 have gr:=zes.ok (zgQ r h Rn hm hl s);have key:∀d e t:D,wc [d! n,t] s=gG! (s++[fA! (z3e bS! jg!)])->z4A (cM! xH) (eX! d e) s=k! t->yM [e] s=u! n->yQ [d,e] s=gG! (s++[fA! (z3e bS! jg!)]):=λd e t ht h1 h2=>by
  have st:zx [cZ!,az!,m9!] [d,e]=eX! d e:=rfl;simp only[yQ,kT,qI,st,_j,_l,_x];rw[zn (ρ':=[i!,A!,b! t]) (s':=s) (by rw[uL,zO,h1];rfl),kX,yo,call2 (by exact h2) (y:=t) (by simp),ht];rfl
 exact key _ _ _ gr (by rw[z2N,call2 (x:=by!) (y:=aw!) x! x!,(ziS r h Rn hm hl s),z9P]) (by simp[yM,zV,h.len])
theorem z9c(h:zB [d,e] s=ec!):yQ [d,e] s=ec!:=by
 have st:zx [cZ!,az!,m9!] [d,e]=eX! d e:=rfl;simp only[yQ,kT,qI,st,_j,_l,_x]
 rw[zh1 (c:=c) (s':=s) (by rw[uL,zO,(show z4A (cM! xH) (eX! d e) s=ec! from by rw[z2N,z5e (x:=d) (y:=e) x! x! (zcf h)];rfl)];rfl)]
theorem znJ(r:Rl) (h:eJ!) (Rn:fP! v) (hm:m<=hA!) (hl:oO!) (s:Sto):xa [by!,aw!] s=gJ! hn!:=by
 obtain⟨pre,hp⟩:=List.getLast?_eq_some_iff.mp (z7Z jg! bS!);exact (λd e h1=>by
  have st:zx dh! [d,e]=hf!:=rfl;have ix:=z6R (x:=ab! (fA! (z3e bS! jg!))) (d:=tD hn!) (xs:=pre.map tD) (s:=s) (by rw[hp];simp[zV,ki]);simp only[xa,kT,qm,st,_j,_l,_x,uI,yo];rw[op2 (by rw[z2N,call2 (x:=d) (y:=e) (by simp) (by simp),h1,z9P]) (y:=d! (-1)) (by simp),ix];rfl:hz! (yQ [d,e] s=gG! (s++[fA! (z3e bS! jg!)])->xa [d,e] s=gJ! hn!)) _ _ (zey r h Rn hm hl s)
theorem zfc(h:zB [d,e] s=ec!):xa [d,e] s=ec!:=by
 have st:zx dh! [d,e]=hf!:=rfl;simp only[xa,kT,qm,st,_j,_l,_x,uI,yo,yx,(show z4A (cM! yQ) hf! s=ec! from by rw[z2N,z5e (x:=d) (y:=e) x! x! (z9c h)];rfl),R.bind_ex]
end
theorem zjG:jo=ww:=rfl
theorem zdY{n:Nat} (hn:n<=4) (s:Sto):xu [d! n] s=gJ! bS!:=by
 exact (hY! (by
  have st:zx [fu!] [d]=[i!]:=rfl;have outer:=comp_map (s:=s) (fi:=eb! 0) (mp:=au! 0) (fg:=cc!) (fe:=el! (eb! 0) b4! 1 (a0! zdf (go! n! o!))) (ρ:=[i!]) (λi:Nat=>aJ! (h! i)) (λi=>rD (aS! n (λj=>af! i j 1 0))) (λi=>[i!,e! (h! i)]) iD! (jk (by lia) (by simp[hd])) (λa _=>by simp) (λi _=>by
    rw[xh ((λi=> comp_map (λj:Nat=>aJ! (h! j)) (λj=>aJ! (af! i j 1 0)) (λj=>[e! (Z! i),e! (h! j)]) iD! (jk (by lia) (by simp[hd])) (λa _=>by simp) (λj _=>by
    rw[xh (x:=.bl (ga! i j)) (by
     rw[yx,vr (d:=d! (Z! i)) rfl,Rb,vr (d:=d! (Z! j)) rfl,Rb,zcA];congr 2;exact decide_eq_decide.mpr (by lia))];by_cases q:i=j<;>simp[q,zdf]) (by simp[cap];lia):∀i:Nat,zv (eb! 0) b4! cc! zZ (a0! zdf (go! n! o!)) [i!,e! (Z! i)] s=bw! (aS! n (λj=>aJ! (af! i j 1 0)))) i),z8j];simp[_aj,_P]) (by simp[cap];lia);rw[(show aS! n (λi=>rD (aS! n (λj=>af! i j (h! 1) 0)))=fc! bS! from by rw[one,_aj];rfl)]at outer;simp only[xu,Mof,z2l,st,_j,_l,_x,z14,yo];rw[xh an!];rfl):∀d:D,d=d! (h! n)->xu [d] s=gJ! bS!) _ rfl
end Po
namespace Pb
open Pm
noncomputable def z01(q:Int)(h r:g!):g!:=ks! (λm o=>o-q*m) h r
theorem z5c{q:Int}{h r:g!}(e:h.length=aE!):r! (z01 q h r)=aE!:=by simp[z01,e]
theorem z2I{q:Int}:∀{h r:List Int},h.length=aE!->∀j:Nat,bg! (z01 q h r) j=cC! j-q*h.getD j 0
 | [],[],_,j=>by simp[z01] | a::h,b::r,e,0=>by simp[z01] | a::h,b::r,e,j+1=>by
  have:=z2I (q:=q) (h:=h) (r:=r) (by simpa using e) j;simpa[z01] using this
theorem z6o(q:Int)(h r:g!)(n:Nat):(z01 q h r).take n=z01 q (h.take n) pL!:=by simp[z01,List.take_zipWith]
theorem zbr(q:Int)(h r:g!)(n:Nat):(z01 q h r).drop n=z01 q (h.drop n) mt!:=by simp[z01,List.drop_zipWith]
theorem zeb{q:Int}:∀(c:List Int) {h r:List Int},h.length=aE!->dot c (z01 q h r)=dot c r-q*dot c h
 | [],h,r,_=>by simp[dot] | x::c,[],[],_=>by simp[dot,z01] | x::c,a::h,b::r,e=>by
  have:=zeb (q:=q) c (h:=h) (r:=r) (by simpa using e);simp only[dot,z01,_ai,_aA]at this ⊢;rw[this];grind
theorem zc8{q:Int}{h r:g!}(e:h.length=aE!):∀C:Tb,mv C (z01 q h r)=z01 q (mv C h) (mv C r)
 | []=>by simp[mv,z01] | c::C=>by
  have:=zc8 (q:=q) e C;simp only[mv,z01,_p,_ai]at this ⊢;rw[<- this];have:=zeb (q:=q) c e;simp only[z01]at this;rw[this]
theorem zlO{n h k:Nat}{A:Tb}(hn:a9!)(hA:ij!)(hh:h<n)(hk:k<n)(ne:h≠k)(q:Int):em! (A.set k (z01 q (my! h) (my! k)))=em! A:=by
 rcases hn with rfl | rfl | rfl
 ·obtain⟨a,b,c,d,rfl⟩:=z8E hA;rcases (show h=0\/h=1 by lia) with rfl | rfl<;>rcases (show k=0\/k=1 by lia) with rfl | rfl<;>first | exact f6! ne | (simp[z01,zcb,d2];grind)
 ·obtain⟨a,b,c,d,e,f,g,i,j,rfl⟩:=z9o hA;rcases (show h=0\/h=1\/h=2 by lia) with rfl | rfl | rfl<;>rcases (show k=0\/k=1\/k=2 by lia) with rfl | rfl | rfl<;>first | exact f6! ne | (simp[z01,zaf,d3,d2];grind)
 ·obtain⟨a,b,c,d,e,f,g,i,j,k',l,m,n',o,p,q',rfl⟩:=z96 hA;rcases (show h=0\/h=1\/h=2\/h=3 by lia) with rfl | rfl | rfl | rfl<;>rcases (show k=0\/k=1\/k=2\/k=3 by lia) with rfl | rfl | rfl | rfl<;>first | exact f6! ne | (simp[z01,zbx,d4,d3,d2];grind)
theorem ziW{n f k:Nat}{A:Tb}(hn:a9!)(hA:ij!)(hf:f<n)(hk:k<n):mr! ((A.set f (my! k)).set k (my! f))=mr! A:=by
 have key:em! ((A.set f (my! k)).set k (my! f))=em! A\/em! ((A.set f (my! k)).set k (my! f))=-(em! A):=by
  rcases hn with rfl | rfl | rfl
  ·obtain⟨a,b,c,d,rfl⟩:=z8E hA;rcases (show f=0\/f=1 by lia) with rfl | rfl<;>rcases (show k=0\/k=1 by lia) with rfl | rfl<;>first | exact cT! | (right;simp[zcb,d2];grind)
  ·obtain⟨a,b,c,d,e,f,g,i,j,rfl⟩:=z9o hA;rename_i f';rcases (show f'=0\/f'=1\/f'=2 by lia) with rfl | rfl | rfl<;>rcases (show k=0\/k=1\/k=2 by lia) with rfl | rfl | rfl<;>first | exact cT! | (right;simp[zaf,d3,d2];grind)
  ·obtain⟨a,b,c,d,e,f,g,i,j,k',l,m,n',o,p,q',rfl⟩:=z96 hA;rename_i f';rcases (show f'=0\/f'=1\/f'=2\/f'=3 by lia) with rfl | rfl | rfl | rfl<;>rcases (show k=0\/k=1\/k=2\/k=3 by lia) with rfl | rfl | rfl | rfl<;>first | exact cT! | (right;simp[zbx,d4,d3,d2];grind)
 rcases key with e | e<;>rw[e];exact Int.natAbs_neg _
theorem qe{a b:Int}(h:bA! (a*b)=1):a.natAbs=1/\b.natAbs=1:=by
 rw[_ax]at h;exact⟨Nat.eq_one_of_mul_eq_one_right h,Nat.eq_one_of_mul_eq_one_left h⟩
theorem znN{n:Nat}{A:Tb}(hn:a9!)(hA:ij!)(z:∀c k,c<k->k<n->bg! (my! k) c=0)(h:mr! A=1):∀k,k<n->bA! (bg! (my! k) k)=1:=by
 rcases hn with rfl | rfl | rfl
 ·obtain⟨a,b,c,d,rfl⟩:=z8E hA;have z1:=z 0 1 (by lia) (by lia);simp at z1;subst z1;rw[zcb,show d2 a b 0 d=a*d by simp[d2]]at h;obtain⟨h1,h2⟩:=qe h;intro k hk;rcases (show k=0\/k=1 by lia) with rfl | rfl<;>simpa
 ·obtain⟨a,b,c,d,e,f,g,i,j,rfl⟩:=z9o hA;have z1:=z 0 1 (by lia) (by lia);have z2:=z 0 2 (by lia) (by lia);have z3:=z 1 2 (by lia) (by lia);simp at z1 z2 z3;subst z1 z2 z3;rw[zaf,show aL! 0 e f 0 0 j=a*(e*j) by simp[d3,d2]]at h;obtain⟨h1,h2⟩:=qe h;obtain⟨h2,h3⟩:=qe h2;intro k hk;rcases (show k=0\/k=1\/k=2 by lia) with rfl | rfl | rfl<;>simpa
 ·obtain⟨a,b,c,d,e,f,g,i,j,k',l,m,n',o,p,q',rfl⟩:=z96 hA;have z1:=z 0 1 (by lia) (by lia);have z2:=z 0 2 (by lia) (by lia);have z3:=z 1 2 (by lia) (by lia);have z4:=z 0 3 (by lia) (by lia);have z5:=z 1 3 (by lia) (by lia);have z6:=z 2 3 (by lia) (by lia);simp at z1 z2 z3 z4 z5 z6;subst z1 z2 z3 z4 z5 z6;rw[zbx,show d4 a b c d 0 f g i 0 0 l m 0 0 0 q'=a*(f*(l*q')) by simp[d4,d3,d2]]at h;obtain⟨h1,h2⟩:=qe h;obtain⟨h2,h3⟩:=qe h2;obtain⟨h3,h4⟩:=qe h3;intro k hk;rcases (show k=0\/k=1\/k=2\/k=3 by lia) with rfl | rfl | rfl | rfl<;>simpa
structure Gd(n:Nat)(T L:Tb):j! where
 len:ay!=n
 row:∀r∈L,aE!=n+n
 lk:∀r∈L,pL!=mv (yi T) mt!
 dt:mr! (n6! q4!)=1
noncomputable def at2(L:Tb)(k j:Nat):Int:=bg! dB! j
section
variable {n:Nat}{T L:Tb}
theorem getD_mem{L:Tb}{k:Nat}(h:k<ay!):dB!∈L:=by
 rw[_n,_b h];exact _K h
theorem ur(L:Tb)(i k:Nat)(r:g!)(hi:i<ay!):hO! (jJ! i r) k=af! i k r dB!:=by
 simp only[_n,List.getElem?_set];split;·rename_i e;subst e;simp[hi]
 ·rfl
theorem Gd.tab(g:Gd n T L):eR! (n6! q4!):=⟨by simp[g.len],cy! (by
 obtain⟨x,hx,rfl⟩:=jX!;simp[oj! x hx])⟩
theorem Gd.rl(g:Gd n T L){k:Nat}(hk:k<n):r! dB!=n+n:=oj! _ (gZ! (by rw[g.len];exact hk))
theorem getD_map(L:Tb)(k n:Nat):hO! (n6! q4!) k=(dB!).take n:=by
 simp only[_n,_z];cases L[k]? <;> simp
theorem Gd.sub(g:Gd n T L)(hn:a9!){h k:Nat}(hh:h<n)(hk:k<n)(ne:h≠k)(q:Int):Gd n T (jJ! k (z01 q (cp! h) dB!)):=by
 have lh:=g.rl hh;have mG:=g.rl hk;have mh:=gZ! (by rw[g.len];exact hh);have mk:=gZ! (by rw[g.len];exact hk);refine⟨by simp[g.len],cy! ?_,cy! ?_,?_⟩
 ·rcases _A hr with h | rfl;·exact oj! r h
  ·rw[z5c (by lia)];exact mG
 ·rcases _A hr with h | rfl;·exact g.lk r h
  ·rw[z6o,zbr,zc8 (by rw[_aO,_aO,lh,mG]),g.lk _ mh,g.lk _ mk]
 ·rw[_ba,z6o,<- getD_map,<- getD_map,zlO hn g.tab hh hk ne];exact g.dt
theorem Gd.swap(g:Gd n T L)(hn:a9!){f k:Nat}(hf:f<n)(hk:k<n):Gd n T ((jJ! f dB!).set k (cp! f)):=by
 have mf:=gZ! (by rw[g.len];exact hf);have mk:=gZ! (by rw[g.len];exact hk);have all:∀r∈(jJ! f dB!).set k (cp! f),r∈L:=cy! (by
  rcases _A hr with h | rfl
  ·rcases _A h with h | rfl;·exact h
   ·exact mk
  ·exact mf)
 refine⟨by simp[g.len],cy! (oj! r (all r hr)),cy! (g.lk r (all r hr)),?_⟩;rw[_ba,_ba,<- getD_map,<- getD_map,ziW hn g.tab hf hk];exact g.dt
noncomputable def elim(a:Nat)(hd:g!):Nat->Tb->Tb
 | 0,L=>L | j+1,L=>let M:=kf! a j L;M.set (a+1+j) (z01 ((at2 M (a+1+j) a).fdiv (jk! 0)) hd (M.getD (a+1+j) []))
theorem z2b(a:Nat)(hd:g!):∀(j:Nat)(L:Tb),r! (kf! a j L)=ay!
 | 0,L=>rfl | j+1,L=>by simp[elim,z2b a hd j L]
theorem z50{a:Nat} {hd:g!} {L:Tb}:∀(j:Nat),a+1+j<=ay!->∀k,hO! (kf! a j L) k=ai! (a<k/\k<a+1+j) (z01 ((c8!).fdiv (jk! 0)) hd dB!) dB!
 | 0,_,k=>by rw[_q (by lia)];rfl | j+1,h,k=>by
  have ih:=z50 (a:=a) (hd:=hd) (L:=L) j (by lia);simp only[elim];rw[ur _ _ _ _ (by rw[z2b];lia)];have e1:hO! (kf! a j L) (a+1+j)=cp! (a+1+j):=by rw[ih,_q (by lia)]
  split
  ·rename_i e;subst e;rw[_h (by lia),at2,e1];rfl
  ·rename_i ne;rw[ih];by_cases hk:a<k/\k<a+1+j;·rw[_h hk,_h (by lia)]
   ·rw[_q hk,_q (by lia)]
theorem Gd.elim(hn:a9!) {a:Nat} {hd:g!}:∀(j:Nat) {L:Tb},Gd n T L->a+1+j<=n->dX!=hd->Gd n T (Pb.elim a hd j L)
 | 0,L,g,_,_=>g | j+1,L,g,h,e=>by
  have ih:=Gd.elim hn j g (by lia) e;have e1:hO! (Pb.elim a hd j L) a=hd:=by rw[z50 j (by rw[g.len];lia),_q (by lia),e]
  have:=ih.sub hn (h:=a) (k:=a+1+j) (by lia) (by lia) (by lia) ((at2 (Pb.elim a hd j L) (a+1+j) a).fdiv (jk! 0));rw[e1]at this;exact this
noncomputable def pas(n a f:Nat)(L:Tb):Tb:=elim a (cp! f) (n-1-a) ((jJ! f dX!).set a (cp! f))
theorem Gd.pas(g:Gd n T L)(hn:a9!){a f:Nat}(ha:a<n)(hf:f<n):Gd n T (Pb.pas n a f L):= Gd.elim hn _ (g.swap hn hf ha) (by lia) (by rw[ur _ _ _ _ (by simp[g.len];exact ha),gC!])
theorem zmi(g:Gd n T L){a f:Nat}(ha:a<n)(hf:f<n)(mH:a<=f)(k:Nat):hO! (pas n a f L) k= af! k a (cp! f) (ai! (a<k/\k<n) (let r:=af! k f dX! dB!;z01 ((cC! a).fdiv (b0! f)) (cp! f) r) dB!):=by
 unfold pas;rw[z50 _ (by simp[g.len];lia)];have e:∀k,hO! ((jJ! f dX!).set a (cp! f)) k=af! k a (cp! f) (af! k f dX! dB!):=λk=>by
  rw[ur _ _ _ _ (by simp[g.len];exact ha),ur _ _ _ _ (by rw[g.len];exact hf)];simp only[eq_comm (a:=a),eq_comm (a:=f)]
 by_cases hka:k=a
 ·subst hka;rw[_q (by lia),e,gC!,gC!]
 ·rw[_q hka];by_cases hk:a<k/\k<n
  ·rw[_h (by lia),_h hk];simp only[at2,e,_q hka]
  ·rw[_q (by lia),_q hk,e,_q hka];rw[_q (by lia)]
end
theorem zlb{x h:Int}(hp:0<h):bA! (x-x / h*h)<kv!/\0<=(x-x / h*h)*h/\bA! (x / h)*kv!<=l3!+kv!/\(0<=x*h->bA! (x / h)*kv!<=l3!/\(kv!<=l3!->bA! (x-x / h*h)+kv!<=l3!)):=by
 have e:x-x / h*h=x % h:=by have:=Int.emod_def x h;rw[this];grind
 have r0:=_a8 x (by omega:h≠0);have r1:=_bl x hp;have d:=_a3 x h;rw[e];refine⟨by omega,_be r0 (by omega),?_,λhx=>?_⟩
 ·rw[<- _ax];have:x / h*h=x-x % h:=by rw[<- e];grind
  rw[this];omega
 ·have x0:0<=x:=by
   by_cases z:0<=x;·exact z
   ·have:=_a4 (by omega:x<0) hp;omega
  have q0:0<=x / h:=Int.ediv_nonneg x0 (by omega);have m:x / h*h=x-x % h:=by rw[<- e];grind
  have m0:=_be q0 (by omega:0<=h);rw[m]at m0;refine⟨by rw[<- _ax,m];omega,λhl=>?_⟩;have q1:1<=x / h:=by
   have:=Int.ediv_le_ediv hp (show h<=x by omega);rw[Int.ediv_self (by omega)]at this;exact this
  have:=_ca q1 (by omega:0<=h);omega
theorem fd{x h:Int}(hz:h≠0):bA! (x-oL!*h)<kv!/\0<=(x-oL!*h)*h/\bA! oL!*kv!<=l3!+kv!/\(0<=x*h->bA! oL!*kv!<=l3!/\(kv!<=l3!->bA! (x-oL!*h)+kv!<=l3!)):=by
 by_cases hp:0<h
 ·rw[_bw _ (by omega)];exact zlb hp
 ·have e:oL!=(-x) / (-h):=by rw[<- Int.neg_fdiv_neg,_bw _ (by omega)]
  obtain⟨h1,h2,h3,h4⟩:=zlb (h:=-h) (by omega);rw[<- e]at h1 h2 h3 h4;have e2:-x-oL!*-h=-(x-oL!*h):=by grind
  rw[e2]at h1 h2 h4;simp only[Int.natAbs_neg,Int.neg_mul_neg]at h1 h2 h3 h4;exact⟨h1,h2,h3,h4⟩
section
variable {n a f:Nat}{T L:Tb}
structure Mn(n a f:Nat)(L:Tb):j! where
 le:a<=f
 lt:f<n
 nz:b0! f≠0
 mn:∀k,a<=k->k<n->c8!≠0->fS! f<=fS! k
theorem zc4(g:Gd n T L)(ha:a<n)(hf:f<n)(mH:a<=f)(k j:Nat):at2 (pas n a f L) k j= af! k a (hs! f) (ai! (a<k/\k<n) (hs! (af! k f a k)-(b0! (af! k f a k)).fdiv (b0! f)*hs! f) (hs! k)):=by
 unfold at2;rw[zmi g ha hf mH];by_cases hka:k=a;·rw[_h hka,_h hka]
 ·rw[_q hka,_q hka];by_cases hk:a<k/\k<n
  ·rw[_h hk,_h hk];have lf:=g.rl hf;by_cases e:k=f
   ·simp only[_h e];rw[z2I (by rw[lf,g.rl ha])];rfl
   ·simp only[_q e];rw[z2I (by rw[lf,g.rl hk.2])];rfl
  ·rw[_q hk,_q hk]
def Zr(n a:Nat)(L:Tb):j!:=∀c,c<a->∀k,c<k->k<n->at2 L k c=0
theorem Zr.pas(z:Zr n a L)(g:Gd n T L)(ha:a<n)(M:Mn n a f L):Zr n a (Pb.pas n a f L):=λc hc k hk hn=>by
 rw[zc4 g ha lo! M.le];have zf:=z c hc f (by have:=M.le;omega) lo!;have za:=z c hc a (by omega) ha;have zk:=z c hc k hk hn;split;·exact zf
 ·split
  ·rw[zf];split;·rw[za];simp
   ·rw[zk];simp
  ·exact zk
structure S1(n a:Nat)(L:Tb)(H N:Nat):j! where
 hd:fS! a=H
 pos:0<H
 bel:∀k,a<k->k<n->fS! k<H/\0<=c8!*b0! a
 bd:∀k,k<n->∀j,hI! k j*H<N
theorem zkZ{y q m:Int}{H X:Nat}(h:ok!*H<=X):bA! (y-q*m)*H<=of!*H+X*qT!:=by
 have h1:bA! (y-q*m)<=of!+ok!*qT!:=by rw[<- _ax];omega
 have h2:=_ay H h1;have h3:=_ay qT! h;rw[Nat.add_mul]at h2;have:ok!*qT!*H=ok!*H*qT!:=by rw[Nat.mul_assoc,_cr qT!,<- Nat.mul_assoc]
 omega
theorem zce(b:Nat):2 ^ b*2 ^ b*4=2 ^ (2*b+2):=by rw[_bg,Nat.two_mul,_bg]
theorem zeF{b:Nat} (g:Gd n T L) (ha:a<n) (M:Mn n a f L) (hb:∀k,k<n->∀j,hI! k j<2 ^ b):S1 n a (pas n a f L) (hI! f a) (2 ^ (2*b+2)):=by
 have hf:=hb f lo!;have pos:0<fS! f:=by have:=M.nz;omega
 have e:=zc4 g ha lo! M.le;refine⟨by rw[e,gC!],pos,ol! ?_,λk h2 j=>?_⟩
 ·have ea:at2 (pas n a f L) a a=b0! f:=by rw[e,gC!]
  rw[ea,e,_q (by omega),b7! h1 h2];obtain⟨r1,r2,_,_⟩:=fd M.nz;exact as! r1 r2
 ·rw[<- zce];have hH:=hf a;rw[e];have pp:=_cn b;have bS:∀x y:Nat,x<2 ^ b->y<2 ^ b->x*y<2 ^ b*2 ^ b:=λx y hx hy=>_b9 hx hy;split;·have:=bS _ _ (hf j) hH;omega
  ·split
   ·obtain⟨_,_,r3,_⟩:=fd (x:=b0! (af! k f a k)) M.nz;have mI:(af! k f a k)<n:=by split<;>omega
    have h5:=zkZ (y:=hs! (af! k f a k)) (m:=hs! f) r3;have h6:=bS _ _ (hb _ mI j) hH;have h7:=bS _ _ (hb _ mI a) (hf j);have h8:=bS _ _ hH (hf j);rw[Nat.add_mul]at h5;omega
   ·have:=bS _ _ (hb k h2 j) hH;omega
theorem zab{H N:Nat} (g:Gd n T L) (ha:a<n) (S:S1 n a L H N) (M:Mn n a f L) (hx:∃k,a<k/\k<n/\c8!≠0): S1 n a (pas n a f L) (hI! f a) (2*N)/\fS! f<H/\∀k,a<k->k<n->2*jL! (pas n a f L) k a<H:=by
 have pos:0<fS! f:=by have:=M.nz;omega
 have e:=zc4 g ha lo! M.le;have bG:fS! f<H:=by
  obtain⟨k,h1,h2,h3⟩:=hx;have:=M.mn k (by omega) h2 h3;have:=(S.bel k h1 h2).1;omega
 have fa:a<f:=by
  rcases _aP M.le with h | h;·exact h
  ·rw[<- h]at bG;have:=S.hd;omega
 have mJ:∀k,a<=k->k<n->0<=c8!*b0! f/\fS! k<=H:=ol! (by
  have s1:fS! k<=H/\0<=c8!*b0! a:=by
   rcases _aP h1 with h | h;·exact⟨_bz (S.bel k h h2).1,(S.bel k h h2).2⟩
   ·subst h;exact⟨by rw[S.hd];exact ah!,by rw[<- Int.natAbs_mul_self];omega⟩
  have s2:=(S.bel f fa lo!).2;refine as! ?_ s1.1;have hn:=S.hd;have hp:=S.pos;rcases Int.lt_or_gt_of_ne (show b0! a≠0 by omega) with q | q
  ·have x1:c8!<=0:=by
    apply Int.not_lt.mp;intro z;have:=Int.mul_neg_of_pos_of_neg z q;omega
   have x2:b0! f<=0:=by
    apply Int.not_lt.mp;intro z;have:=Int.mul_neg_of_pos_of_neg z q;omega
   exact _bP x1 x2
  ·have x1:0<=c8!:=by
    apply Int.not_lt.mp;intro z;have:=_a4 z q;omega
   have x2:0<=b0! f:=by
    apply Int.not_lt.mp;intro z;have:=_a4 z q;omega
   exact _be x1 x2)
 have src:∀k,a<k->k<n->a<=(af! k f a k)/\(af! k f a k)<n:=ol! (by split<;>omega)
 refine⟨⟨by rw[e,gC!],pos,ol! ?_,λk h2 j=>?_⟩,bG,ol! ?_⟩
 ·have ea:at2 (pas n a f L) a a=b0! f:=by rw[e,gC!]
  rw[ea,e,_q (by omega),b7! h1 h2];obtain⟨r1,r2,_,_⟩:=fd M.nz;exact as! r1 r2
 ·have iY := λk hk=>_bO (Nat.mul_le_mul_left _ (_bz bG)) (S.bd k hk j);rw[e];split;·have:=iY f lo!;omega
  ·split
   ·rename_i hk;obtain⟨i1,i2⟩:=src k hk.1 hk.2;obtain⟨s1,s2⟩:=mJ _ i1 i2;obtain⟨_,_,_,r4⟩:=fd M.nz;have h5:=zkZ (y:=hs! (af! k f a k)) (m:=hs! f) (_Y (r4 s1).1 s2);have h6:=iY _ i2;have h7:=S.bd f lo! j;rw[_cr]at h7;omega
   ·have:=iY k h2;omega
 ·rw[e,_q (by omega),b7! h1 h2];obtain⟨i1,i2⟩:=src k h1 h2;obtain⟨s1,s2⟩:=mJ _ i1 i2;obtain⟨r1,_,_,r4⟩:=fd M.nz;by_cases z:b0! (af! k f a k)=0;·rw[z];simp;have:=S.pos;omega
  ·have:=(r4 s1).2 (M.mn _ i1 i2 z);omega
end
noncomputable def C8:Nat:=2 ^ 8000
noncomputable def C2:Nat:=2 ^ bB!
inductive Lr(f:Tb->Nat)(n a:Nat):Nat->Tb->Tb->j! | done {L:Tb}(h:∀k,a<k->k<n->c8!=0):Lr f n a 0 L L | step {m:Nat}{L L':Tb}(h:∃k,a<k/\k<n/\c8!≠0)(r:∀x∈L,x.length=n+n)(l:ay!=n)(M:Mn n a (f L) L)(b1:∀i,i<n->∀j,hI! i j<C8)(b2:∀i,a<=i->i<n->fS! i<C2)(q:Lr f n a m (pas n a (f L) L) L'):Lr f n a (m+1) L L'
section
variable {n a:Nat}{T:Tb}{f:Tb->Nat}
theorem Zr.up{L:Tb}(z:Zr n a L)(h:∀k,a<k->k<n->c8!=0):Zr n (a+1) L:=λc hc k hk hn=>by
 rcases _aP (Nat.le_of_lt_succ hc) with q | q;·exact z c q k hk hn
 ·subst q;exact h k hk hn
theorem zfU{L:Tb}:(∀k,a<k->k<n->c8!=0)\/∃k,a<k/\k<n/\c8!≠0:=by
 by_cases h:∃k,a<k/\k<n/\c8!≠0;·exact R! h
 ·exact w! (ol! (_X λz=>h ⟨k,h1,h2,z⟩))
theorem S1.lt{L:Tb}{H N:Nat}(S:S1 n a L H N)(i:Nat)(hi:i<n)(j:Nat):hI! i j<N:=by
 have h1:=S.bd i hi j;have h2:=Nat.mul_le_mul_left (hI! i j) S.pos;lia
theorem S1.col{L:Tb}{H N k:Nat}(S:S1 n a L H N)(h:H<2 ^ k)(hk:k<=bB!):∀i,a<=i->i<n->fS! i<C2:=λi h1 h2=>by
 have h3:2 ^ k<=C2:=_B (by decide) hk;have h4:fS! i<=H:=by
  rcases _aP h1 with q | q;·exact _bz (S.bel i q h2).1
  ·subst q;exact Nat.le_of_eq S.hd
 lia
theorem ztx(hn:a9!)(ha:a<n)(hf:∀L:Tb,ay!=n->(∃k,a<k/\k<n/\c8!≠0)->Mn n a (f L) L):∀(k:Nat){L:Tb}{H N:Nat},Gd n T L->Zr n a L->S1 n a L H N->H<2 ^ k->k<=bB!->N*4 ^ k<=C8-> ∃m L',Lr f n a m L L'/\Gd n T L'/\Zr n (a+1) L'/\∀i,i<n->∀j,jL! L' i j<N*4 ^ k
 | 0,L,H,N,g,z,S,h,_,_=>by have:=S.pos;lia | k+1,L,H,N,g,z,S,h,hk,hN=>by
  have p4:N*4 ^ (k+1)=4*N*4 ^ k:=by rw[_dE];grind
  have p1:1<=4 ^ k:=Nat.pos_of_ne_zero (by simp);have pk:2 ^ (k+1)=2*2 ^ k:=by rw[_dE];lia
  have q1:4*N<=4*N*4 ^ k:=_bS _ p1;have c1:=S.col h hk;have l1:=S.lt;rw[p4]at hN ⊢;generalize hZ:4*N*4 ^ k=Z at *;rcases zfU with h0 | h0;·exact⟨0,L,.done h0,g,z.up h0,lp! (by have:=l1 i hi j;lia)⟩
  ·have M:=hf L qU! h0;obtain⟨S2,h2,h3⟩:=zab g ha S M h0;have g2:=g.pas hn ha lo!;have z2:=z.pas g ha M;have b1:∀i,i<n->∀j,hI! i j<C8:=lp! (by have:=l1 i hi j;lia)
   have l2:=S2.lt;rcases zfU with h4 | h4;·exact⟨1,_,.step h0 g.row qU! M b1 c1 (.done h4),g2,z2.up h4,lp! (by have:=l2 i hi j;lia)⟩
   ·have M2:=hf _ g2.len h4;obtain⟨S3,h5,h6⟩:=zab g2 ha S2 M2 h4;have hH:jL! (pas n a (f L) L) (f (pas n a (f L) L)) a<2 ^ k:=by
     obtain⟨i,i1,i2,i3⟩:=h4;have:=M2.mn i (by lia) i2 i3;have:=h3 i i1 i2;lia
    have c2:=S2.col (by lia) hk;have b2:∀i,i<n->∀j,jL! (pas n a (f L) L) i j<C8:=lp! (by have:=l2 i hi j;lia)
    have pA:S1 n a (pas n a (f (pas n a (f L) L)) (pas n a (f L) L)) (jL! (pas n a (f L) L) (f (pas n a (f L) L)) a) (4*N):=by
     have e:2*(2*N)=4*N:=by lia
     rw[e]at S3;exact S3
    obtain⟨m,L',r,gl,zl,bl⟩:=ztx hn ha hf k (g2.pas hn ha M2.lt) (z2.pas g2 ha M2) pA hH (by lia) (by rw[hZ];exact hN);rw[hZ]at bl;exact⟨m+2,L',.step h0 g.row qU! M b1 c1 (.step h4 g2.row g2.len M2 b2 c2 r),gl,zl,bl⟩
theorem column{b:Nat} {L:Tb} (hn:a9!) (ha:a<n) (hf:∀L:Tb,ay!=n->(∃k,a<k/\k<n/\c8!≠0)->Mn n a (f L) L) (g:Gd n T L) (z:Zr n a L) (hb:∀i,i<n->∀j,hI! i j<2 ^ b) (lZ:b<=1990): ∃m L',Lr f n a m L L'/\Gd n T L'/\Zr n (a+1) L'/\∀i,i<n->∀j,jL! L' i j<2 ^ (ai! (a+1<n) (4*b+2) b):=by
 have pe:2 ^ b<=2 ^ (ai! (a+1<n) (4*b+2) b):=_B (by decide) (by split<;>lia);rcases zfU (n:=n) (a:=a) (L:=L) with h0 | h0;·exact⟨0,L,.done h0,g,z.up h0,lp! (_i (hb i hi j) pe)⟩
 ·have pB:a+1<n:=by obtain⟨k,h1,h2,_⟩:=h0;lia
  rw[_h pB];have M:=hf L qU! h0;have S:=zeF g ha M hb;have e:2 ^ (2*b+2)*4 ^ b=2 ^ (4*b+2):=by
   rw[show 4=2 ^ 2 from rfl,<- Nat.pow_mul,<- _bg];congr 1;lia
  have p8:2 ^ b<=C8:=_B (by decide) (by lia);have p2:2 ^ b<=C2:=_B (by decide) (by lia);obtain⟨m,L',r,gl,zl,bl⟩:=ztx hn ha hf b (g.pas hn ha lo!) (z.pas g ha M) S (hb _ lo! a) (by lia) (by rw[e];exact _B (by decide) (by lia));rw[e]at bl;exact⟨m+1,L',.step h0 g.row qU! M (lp! (_i (hb i hi j) p8)) (λi _ hi=>_i (hb i hi a) p2) r,gl,zl,bl⟩
end
structure Bk(n:Nat)(T L:Tb)(m:Nat):j! where
 len:ay!=n
 row:∀r∈L,aE!=n+n
 lk:∀r∈L,pL!=mv (yi T) mt!
 tri:∀c k,c<k->k<n->at2 L k c=0
 dia:∀k,k<m->hI! k k=1
 un:∀c,m<=c->c<n->∀k,k<n->at2 L k c=af! k c 1 0
noncomputable def scl(a:Nat)(L:Tb):Tb:=jJ! a ((dX!).map λx=>x*b0! a)
noncomputable def bk(a:Nat):Nat->Tb->Tb
 | 0,L=>L | j+1,L=>let M:=bk a j L;M.set j (z01 (at2 M j a) (M.getD a []) (M.getD j []))
section
variable {n a m:Nat}{T L:Tb}
theorem Bk.rl(g:Bk n T L m){k:Nat}(hk:k<n):r! dB!=n+n:=oj! _ (gZ! (by rw[g.len];exact hk))
theorem z86(a:Nat):∀(j:Nat)(L:Tb),r! (bk a j L)=ay!
 | 0,L=>rfl | j+1,L=>by simp[bk,z86 a j L]
theorem zgE{a:Nat}{L:Tb}:∀(j:Nat),j<=a->a<ay!->∀k,hO! (bk a j L) k=ai! (k<j) (z01 c8! dX! dB!) dB!
 | 0,_,_,k=>by rw[_q (by omega)];rfl | j+1,h,hl,k=>by
  have ih:=zgE j (by omega) hl;simp only[bk];have ea:hO! (bk a j L) a=dX!:=by rw[ih,_q (by omega)]
  have ej:hO! (bk a j L) j=cp! j:=by rw[ih,_q (by omega)]
  have e2:at2 (bk a j L) j a=b0! j:=by rw[at2,ej];rfl
  rw[ur _ _ _ _ (by rw[z86];omega),ea,ej,e2];split;·rename_i e;subst e;rw[_h (by omega)]
  ·rename_i ne;rw[ih k];by_cases hk:k<j;·rw[_h hk,_h (by omega)]
   ·rw[_q hk,_q (by omega)]
theorem zh0(d:Int):∀(c r:List Int),dot c (m3! (λx=>x*d))=dot c r*d:=λc r=>z9m d c r
theorem zdi(d:Int)(r:g!):∀C:Tb,mv C (m3! (λx=>x*d))=(mv C r).map λx=>x*d
 | []=>rfl | c::C=>by
  have:=zdi d r C;simp only[mv,_p]at this ⊢;rw[this,zh0]
theorem zg5(d:Int)(r:g!)(j:Nat):bg! (m3! (λx=>x*d)) j=cC! j*d:=by
 simp only[_n,_z];cases r[j]? <;> simp
theorem zkB(g:Bk n T L (a+1))(ha:a<n)(k j:Nat):at2 (scl a L) k j=af! k a (hs! a*b0! a) (hs! k):=by
 unfold at2 scl;rw[ur _ _ _ _ (by rw[g.len];exact ha)];by_cases e:k=a
 ·subst e;rw[gC!,gC!,zg5];rfl
 ·rw[_q (λz=>e i4!),_q e]
theorem Bk.row_at(g:Bk n T L (a+1))(ha:a<n){c:Nat}(hc:c<n)(ne:c≠a):at2 L a c=0:=by
 rcases Nat.lt_or_gt_of_ne ne with h | h;·exact g.tri c a h ha
 ·rw[g.un c h hc a ha,_q (by omega)]
theorem step_at(g:Bk n T L (a+1))(ha:a<n)(k j:Nat)(hk:k<n):at2 (bk a a (scl a L)) k j=ai! (k<a) (hs! k-c8!*(hs! a*b0! a)) (af! k a (hs! a*b0! a) (hs! k)):=by
 have lS:a<r! (scl a L):=by simp[scl,g.len];exact ha
 have e:=zkB g ha;rw[at2,zgE a ah! lS];split
 ·rename_i h;rw[z2I]
  ·have e1:=e k j;have e2:=e a j;have e3:=e k a;rw[_q (by omega)]at e1 e3;rw[gC!]at e2;rw[show bg! (hO! (scl a L) k) j=at2 (scl a L) k j from rfl,show bg! (hO! (scl a L) a) j=at2 (scl a L) a j from rfl,e1,e2,e3]
  ·simp only[scl];rw[ur _ _ _ _ (by rw[g.len];exact ha),ur _ _ _ _ (by rw[g.len];exact ha),gC!,_q (by omega),_W,g.rl ha,g.rl hk]
 ·exact e k j
theorem Bk.step(g:Bk n T L (a+1)) (ha:a<n):Bk n T (bk a a (scl a L)) a:=by
 have dd:b0! a*b0! a=1:=by
  have:=g.dia a (by omega);rcases Int.natAbs_eq_iff.mp i7! with h | h<;>rw[h]<;>rfl
 have ra:∀r,r=(dX!).map (λx=>x*b0! a)->aE!=n+n/\pL!=mv (yi T) mt!:=λr e=>by
  subst e;have m:=gZ! (by rw[g.len];exact ha);refine⟨by rw[_W,g.rl ha],?_⟩;rw[<- _ce,<- _aS,zdi,g.lk _ m]
 have rs:∀r∈scl a L,aE!=n+n/\pL!=mv (yi T) mt!:=cy! (by
  rcases _A hr with h | h;·exact⟨oj! r h,g.lk r h⟩
  ·exact ra r h)
 have lS:r! (scl a L)=n:=by simp[scl,g.len]
 have all:∀j,j<=a->∀r∈bk a j (scl a L),aE!=n+n/\pL!=mv (yi T) mt!:=by
  intro j;induction j with
  | zero=>exact λ_=>rs | succ j ih=>
   intro hj r hr;have ih:=ih (by omega);simp only[bk]at hr;rcases _A hr with h | rfl;·exact ih r h
   ·have m1:=getD_mem (L:=bk a j (scl a L)) (by rw[z86,lS];exact ha);have m2:=getD_mem (L:=bk a j (scl a L)) (k:=j) (by rw[z86,lS];omega);obtain⟨l1,k1⟩:=ih _ m1;obtain⟨l2,k2⟩:=ih _ m2;refine⟨by rw[z5c (by omega)];exact l2,?_⟩;rw[z6o,zbr,zc8 (by rw[_aO,_aO,l1,l2]),k1,k2]
 have e:=step_at g ha;refine⟨by rw[z86,lS],cy! (all a ah! r hr).1,cy! (all a ah! r hr).2,λc k h1 h2=>?_,λk hk=>?_,λc h1 h2 k hk=>?_⟩
 ·rw[e k c h2,g.tri c k h1 h2];by_cases hc:c=a;·subst hc;rw[_q (by omega),_q (by omega)]
  ·rw[g.row_at ha (by omega) hc];simp
 ·rw[e k k (by omega),_h hk,g.row_at ha (by omega) (by omega)];simp;exact g.dia k (by omega)
 ·rw[e k c hk];by_cases hc:c=a
  ·subst hc;rw[dd];split;·rw[_q (by omega)];omega
   ·split;·rfl
    ·rename_i h3 h4;exact g.tri c k (by omega) hk
  ·rw[g.row_at ha h2 hc];have u:=g.un c (by omega) h2 k hk;split;·rw[u];simp
   ·split;·rename_i h4;subst h4;rw[_q (λz=>hc i4!)];simp
    ·exact u
theorem zmd{b:Nat}(g:Bk n T L (a+1))(ha:a<n)(hb:∀i,i<n->∀j,hI! i j<2 ^ b):∀i,i<n->∀j,jL! (bk a a (scl a L)) i j<2 ^ (2*b+1):=lp! (by
 have d1:=g.dia a (by omega);have ea:bA! (hs! a*b0! a)=hI! a j:=by rw[_ax,d1,Nat.mul_one]
 have p:2 ^ (2*b+1)=2*(2 ^ b*2 ^ b):=by rw[_dE,Nat.two_mul,_bg];omega
 have h1:=hb i hi j;have h2:2 ^ b<=2 ^ b*2 ^ b:=_bS _ (_cn b);rw[step_at g ha i j hi,p];split
 ·have h3:bA! (b0! i*(hs! a*b0! a))<2 ^ b*2 ^ b:=by rw[_ax,ea];exact _b9 (hb i hi a) (hb a ha j)
  omega
 ·split;·have:=hb a ha j;omega
  ·omega)
end
theorem zml{n:Nat}{A B:Tb}(hn:a9!)(ha:ij!)(hb:eR! B):A.map (mv (yi B))=jw A B:=by
 rcases hn with rfl | rfl | rfl
 ·obtain⟨a,b,c,d,rfl⟩:=z8E ha;obtain⟨a',b',c',d',rfl⟩:=z8E hb;rw[zbw];simp[mv,yi,List.range,List.range.loop,_dC]
 ·obtain⟨a,b,c,d,e,f,g,i,j,rfl⟩:=z9o ha;obtain⟨a',b',c',d',e',f',g',i',j',rfl⟩:=z9o hb;rw[zaI];simp[mv,yi,List.range,List.range.loop,_dC]
 ·obtain⟨a,b,c,d,e,f,g,i,j,k,l,m,n',o,p,q,rfl⟩:=z96 ha;obtain⟨a',b',c',d',e',f',g',i',j',k',l',m',rm,o',p',q',rfl⟩:=z96 hb;rw[zaT];simp[mv,yi,List.range,List.range.loop,_dC]
section
variable {n:Nat}{T L:Tb}
theorem zjR(hn:a9!)(hT:gK!)(hf:z08 T)(g:Bk n T L 0):sl! n=gx! T:=by
 have tB:eR! (sl! n):=⟨by simp[g.len],cy! (by
  obtain⟨x,hx,rfl⟩:=jX!;simp[oj! x hx])⟩;have e1:n6! q4!=bS!:=by
  apply _c1;intro k;by_cases hk:k<n
  ·have hl:k<ay!:=by rw[g.len];exact hk
   rw[_z,_b hl,one,_z,_aD hk];simp only[_af,_y];apply _c1;intro c;have el := oj! _ (_K hl);by_cases hc:c<n
   ·have u:=g.un c gM! hc k hk;have ga:at2 L k c=L[k][c]'(by lia):=by simp[at2,_b hl,_b (show c<r! (L[k]) by lia)]
    rw[ga]at u;rw[_al hc,_b (by lia),u,_z,_aD hc];rfl
   ·rw[_J (by simp;lia),_J (by simp;lia)]
  ·rw[_J (by simp[g.len];lia),_J (by simp[one];lia)]
 have e2:jw (sl! n) T=bS!:=by
  rw[<- zml hn tB hT,<- e1,_aj];exact _aX (cy! (g.lk r hr).symm)
 have b:=z6S hn hT hf;have h3:=assoc hn tB hT (z0Q hT);rw[e2,b.2,(z9a hn (z0Q hT)).1,(z9a hn tB).2]at h3;exact h3.symm
noncomputable def lay(T:Tb):Tb:=ks! (λa b=>a++b) T (one aY!)
theorem zoB(hn:a9!)(hT:gK!)(hf:z08 T):Gd n T (lay T):=by
 have ln:r! (lay T)=n:=by simp[lay,one,hT.len]
 have hd:mr! T=1:=by rcases hf with h | h<;>rw[h]<;>rfl
 have tk:(lay T).map q4!=T/\(∀r∈lay T,aE!=n+n)/\∀r∈lay T,pL!=mv (yi T) mt!:=by
  rcases hn with rfl | rfl | rfl
  ·obtain⟨a,b,c,d,rfl⟩:=z8E hT;refine⟨rfl,cy! ?_,cy! ?_⟩<;>(simp[lay,one,List.range,List.range.loop]at hr;rcases hr with rfl | rfl<;>simp[mv,yi,List.range,List.range.loop])
  ·obtain⟨a,b,c,d,e,f,g,i,j,rfl⟩:=z9o hT;refine⟨rfl,cy! ?_,cy! ?_⟩<;>(simp[lay,one,List.range,List.range.loop]at hr;rcases hr with rfl | rfl | rfl<;>simp[mv,yi,List.range,List.range.loop])
  ·obtain⟨a,b,c,d,e,f,g,i,j,k,l,m,n',o,p,q,rfl⟩:=z96 hT;refine⟨rfl,cy! ?_,cy! ?_⟩<;>(simp[lay,one,List.range,List.range.loop]at hr;rcases hr with rfl | rfl | rfl | rfl<;>simp[mv,yi,List.range,List.range.loop])
 exact⟨ln,tk.2.1,tk.2.2,by rw[tk.1];exact hd⟩
theorem zqf{b:Nat}(hn:a9!)(hT:gK!)(hb:Bd b T)(b1:1<=b):∀i,i<n->∀j,jL! (lay T) i j<2 ^ b:=lp! (by
 have h2:1<2 ^ b:=Nat.one_lt_two_pow (by lia);have all:∀r∈lay T,∀x∈r,dc! b:=λr hr x hx=>by
  simp only[lay]at hr;obtain⟨k,hk,e⟩:=gu! hr;rw[List.getElem_zipWith]at e;subst e;rcases mX! hx with h | h;·exact hb _ (_K _) x h
  ·simp only[one,_dn,_t]at h;obtain⟨c,_,rfl⟩:=h;split<;>simp<;>lia
 unfold at2;have ln:i<r! (lay T):=by simp[lay,one,hT.len];exact hi
 exact z5K (all _ (gZ! ln)) j)
theorem Gd.bk(g:Gd n T L)(hn:a9!)(z:Zr n n L):Bk n T L n:=by
 have tri := λc k h1 h2=>z c (by lia) k h1 h2;have tk:∀k c,c<n->bg! (hO! (n6! q4!) k) c=at2 L k c:=λk c hc=>by
  rw[getD_map];simp[at2,_al hc]
 refine⟨qU!,g.row,g.lk,tri,λk hk=>?_,λc h1 h2=>by lia⟩;have:=znN hn g.tab (λc k h1 h2=>by rw[tk k c (by lia)];exact tri c k h1 h2) g.dt k hk;rw[tk k k hk]at this;exact this
end
end Pb
namespace Pt
open L2 Dd Pm Pg Pn Po Pr
structure Lt(n b:Nat)(v:g!):j! where
 lot:a2!
 le:∀x∈v,x<=h! b
end Pt
namespace Pv
open L2 Dd Pm Pg Pn Po Pr Pt
end Pv
namespace Pv
open L2 Dd Pm Pg Pn Po Pr Pt
end Pv
namespace aZ
open L2 Dd Pm Pg Pn Po Pb
noncomputable def rL(r:g!):D:=eF! r
theorem z2Z(r:g!):(rL r).flat=c!:=by
 unfold rL;simp only[D.flat];induction r with
 | nil=>rfl | cons x r ih=>simp only[_p,Bool.true_and]at ih ⊢;exact ih
theorem zdT:∀L:Tb,c0! l6!
 | []=>rfl | r::L=>by simp only[_p,D.flat.flats,z2Z,zdT L,Bool.and_self]
theorem xC(s:Sto)(x:C!):E! (s++[x]) cf! x:=by simp
theorem z5T(s:Sto)(x y:C!):(s++[x]).set cf! y=s++[y]:=by simp
theorem qT{L:Tb}{s:Sto}{l k:Nat}(h:E! s l l6!)(hk:k<ay!):cU! ea! k s=k! (rL dB!):=by
 refine zan h (by lia) ?_;rw[_z,_T,_b hk,_n,_b hk];rfl
theorem zmG{r:g!}{s:Sto}{j:Nat}(hj:j<aE!):cU! (rL r) j s=u! (cC! j):=by
 refine wZ (by lia) ?_;rw[_z,_T,_b hj,_n,_b hj];rfl
theorem el2{L:Tb}{s:Sto}{ρ:Ev}{a b c l k j:Nat}(h:E! s l l6!)(ha:E! ρ a M!)(hb:E! ρ b bU!)(hc:E! ρ c aV!)(hk:k<ay!)(hj:j<r! dB!): eOp dIx (ar! a b) (zd c) ρ s=u! (hs! k):=by
 rw[op2 (by rw[op2 (vr ha) (vr hb),qT h hk]) (vr hc),zmG hj];rfl
theorem zip_rows:∀h r:List Int,z3S (iL h) (iL r)=ji! h r (iF! (bO! p.1 p.2))
 | [],_=>by simp[z3S] | _::_,[]=>by simp[z3S] | a::h,b::r=>by
  have:=zip_rows h r;simp only[_p,z3S,_bn]at this ⊢;rw[this]
theorem zfZ(q:Int):∀h r:List Int,ji! h r (λp=>aJ! (p.2-q*p.1))=iL (z01 q h r)
 | [],_=>by simp[z01] | _::_,[]=>by simp[z01] | a::h,b::r=>by
  have:=zfZ q h r;simp only[z01,_bn,_p,_ai]at this ⊢;rw[this]
theorem zdp{L:Tb} {s:Sto} {ρ:Ev} {l k:Nat} {q:Int} {h:g!} (hs:E! s l l6!) (h2:E! ρ 2 M!) (h6:E! ρ 6 (g5! h)) (h7:E! ρ 7 bU!) (h8:E! ρ 8 (e! q)) (hk:k<ay!) (hl:h.length<=100) (bq:ok!<2 ^ (2 ^ 16)) (bh:∀x∈h,dc! (2 ^ 16)): zv (z4P (aO! (zd 6) (ar! 2 7))) (dz! 8) (yN 1 2) zZ (kb! 2 (eOp z7J n! o!)) ρ s=k! (rL (z01 q h dB!)):=by
 have row:eOp dIx I! (zd 7) ρ s=k! (rL dB!):=by rw[op2 (vr h2) (vr h7),qT hs hk]
 have hi:z4P (aO! (zd 6) (ar! 2 7)) ρ s=k! (ji! h dB! (iF! (bO! p.1 p.2)),[]):=by simp only[z4P,zy,zM,row,vr h6,Rb,rL,z8c,zip_rows,_aH]
 have e8:vd (dz! 8) ρ=dz! (d! q):=by simp[h8]
 have:=comp_map (fg:=yN 1 2) (fe:=kb! 2 (eOp z7J n! o!)) (pk! (gv! (bO! p.1 p.2))) (λp=>aJ! (p.2-q*p.1)) (λp=>[e! q,e! p.1,e! p.2]) (rs! h dB!) hi (bo! (by rw[e8];rfl)) (bo! (by
   have m:eOp z7J n! o! [e! q,e! p.1,e! p.2] s=u! (q*p.1):=by
    rw[ic! x!];exact zgx bq (bh _ (lO!).1) s
   rw[ic! m];rfl)) (by simp[cap];lia);rw[this,zfZ];rfl
noncomputable def V9(t:D)(n l:Nat)(x3 x4 x5 x6 x7 x8:fg!):Ev:=[b! t,aB!,M!,x3,x4,x5,x6,x7,x8]
noncomputable def z2S(n a:Nat)(L:Tb):jl!:=fW! (aS! (n-a) (λk=>a+k)) (λk=>cr! c8! 0)
noncomputable def prs(n a:Nat)(L:Tb):Tb:=(z2S n a L).map λk=>[h! (fS! k),h! k]
noncomputable def z8A(n a:Nat)(L:Tb):Nat:=match z7L [] (ab! (fc! (prs n a L))) with
 | some (.tup [_,.int i]::_)=>i.toNat | _=>0
theorem z1Y{n a k:Nat}{L:Tb}:k∈z2S n a L ↔ a<=k/\k<n/\c8!≠0:=by
 simp only[z2S,_bo,_t,_aJ,_au];constructor;·rintro⟨⟨j,h,rfl⟩,z⟩;exact⟨by lia,by lia,z⟩
 ·rintro⟨h1,h2,z⟩;exact as! ⟨k-a,by lia,by lia⟩ z
theorem zj0(n a:Nat)(L:Tb):(z2S n a L).Nodup:=by
 refine List.Pairwise.filter _ (_c4 _ (λx y h=>?_) List.nodup_range);intro z;exact h (by lia)
theorem zag(n a:Nat)(L:Tb):r! (z2S n a L)<=n-a:=_Y (List.length_filter_le _ _) (by simp)
theorem zhf{n a:Nat}{L:Tb}(hn:n<=4)(h:∃k,a<k/\k<n/\c8!≠0):∃(G:Tb),z7L [] (ab! (fc! (prs n a L)))=b! (fc! (([h! (fS! (z8A n a L)),h! (z8A n a L)])::G))/\Mn n a (z8A n a L) L:=by
 have nd:(prs n a L).Nodup:=by
  refine _c4 _ (λx y h z=>h ?_) (zj0 n a L);simp at z;have:=z.2;lia
 have ln:r! (prs n a L)<64:=by have:=zag n a L;simp only[prs,_W];lia
 obtain⟨G,e,up,mem,gl⟩:=Pr.zjm (d:=ab! (fc! (prs n a L))) rfl nd (w! ln) (lc! (by
  simp only[prs,_t]at hv;obtain⟨k,_,rfl⟩:=hv;simp));obtain⟨k0,h1,h2,h3⟩:=h;have m0 := (mem _).mpr (_t.mpr ⟨k0,z1Y.mpr ⟨by lia,h2,h3⟩,rfl⟩);cases G with
 | nil=>simp at m0 | cons g G=>
  have mg:=(mem g).mp ju!;simp only[prs,_t]at mg;obtain⟨f,hf,rfl⟩:=mg;obtain⟨f1,f2,f3⟩:=z1Y.mp hf;have ef:z8A n a L=f:=by
   unfold z8A;rw[e];simp[rD]
  rw[ef];refine⟨G,e,f1,f2,f3,λk k1 k2 k3=>?_⟩;have mk := (mem _).mpr (_t.mpr ⟨k,z1Y.mpr ⟨k1,k2,k3⟩,rfl⟩);rcases d2! mk with z | z;·simp at z;lia
  ·have:=(List.pairwise_cons.mp up).1 _ z;simp only[lexN]at this;split at this;·lia
   ·have:=_c3 i7!;lia
section
variable {t:D}{n a:Nat}{L:Tb}{s:Sto}{x4 x5 x6 x7 x8:fg!}
theorem zgb(s:Sto)(xs:C!):z7L s cD!=z7L [] cD!:=rfl
theorem zgD{f g:FE}{ρ:Ev}{s:Sto}{i j:Nat}(hf:aK!=u! i)(hg:g ρ s=u! j)(hi:dm! i)(hj:dm! j):zcn (aO! f g) ρ s=k! ((aS! (j-i) (λk=>i+k)).map (fz! k),[]):=by
 simp only[zmt,zy,zM,hf,hg,Rb];rw[_h (by lia)];simp only[_aj];rw[show eQ! (h! j-i)=j-i by lia];congr 2
theorem zrm(hn:n<=4) (ha:a<n) (hl:ay!=n) (hr:∀r∈L,aE!=n+n):vk (fR! x6) bd!=F! (de! t n (e! a) (L! ((z2S n a L).map (fz! k))) x5 x6 x7 x8) bd!:=by
 have hs:=xC s l6!;have c:zv (zcn (cg! ba! 1)) (eX! 3 2) (yh 2) (hc! (c5! (ar! 1 2) n!) D!) I! (fR! x6) bd!=gi! (ab! ((z2S n a L).map (fz! k))):= wb (fz! k) (fz! k) (λk=>cr! c8! 0) (λk=>[e! a,N!,bU!]) (aS! (n-a) (λk=>a+k)) (zgD x! x! (by lia) (by lia)) (λk _=>rfl) (λk hk=>by
    obtain⟨j,hj,rfl⟩:=_t.mp hk;have hj:=_aJ.mp hj;have e:=el2 (ρ:=[e! a,N!,e! (Z! (a+j))]) (a:=1) (b:=2) (c:=0) hs rfl rfl rfl (by lia) (by rw[oH! _ (by lia)];lia);rw[z2j];rw[op2 e (z00 ..),zct]) (λk _ _=>x!) (by simp[cap];lia);rw[vk,zO,c];rfl
end
section
variable {t:D}{n a:Nat}{L:Tb}{s:Sto}{x4 x5 x6 x7 x8:fg!}
theorem zrC(hn:n<=4) (ha:a<n) (hl:ay!=n) (hr:∀r∈L,aE!=n+n) (h:∃k,a<k/\k<n/\c8!≠0):vn (de! t n (e! a) (L! ((z2S n a L).map (fz! k))) x5 x6 x7 x8) bd!=F! (de! t n (e! a) (L! ((z2S n a L).map (fz! k))) (e! (z8A n a L)) x6 x7 x8) bd!:=by
 have hs:=xC s l6!;have c:zv (zT (zd 4)) (eX! 3 2) (yh 2) zZ (cw! (a0! zkv (c5! (ar! 1 2) n!)) I!) (de! t n (e! a) (L! ((z2S n a L).map (fz! k))) x5 x6 x7 x8) bd!=gi! (ab! (fc! (prs n a L))):=by
  have:=comp_map (fi:=zT (zd 4)) (mp:=eX! 3 2) (fg:=yh 2) (fe:=cw! (a0! zkv (c5! (ar! 1 2) n!)) I!) (ρ:=de! t n (e! a) (L! ((z2S n a L).map (fz! k))) x5 x6 x7 x8) (s:=bd!) (fz! k) (λk:Nat=>rD [h! (fS! k),h! k]) (λk=>[e! a,N!,bU!]) (z2S n a L) (qU x!) (λk _=>rfl) (λk hk=>by
    obtain⟨k1,k2,k3⟩:=z1Y.mp hk;have e:=el2 (ρ:=[e! a,N!,e! (h! k)]) (a:=1) (b:=2) (c:=0) hs rfl rfl rfl (by lia) (by rw[oH! _ (by lia)];lia);have e1:=xh (M:=zkv) e;simp only[zkv]at e1;simp only[z1V,zy,zM,e1,vr (ρ:=[e! a,N!,e! (h! k)]) (i:=2) rfl,Rb];rw[_h (by simp[cap]),show (ai! (c8!<0) (-c8!) c8!)=h! (fS! k) by lia];rfl) (by have:=zag n a L;simp[cap];lia);rw[this];simp only[prs,_aj];rfl
 obtain⟨G,eG,M⟩:=zhf hn h;have e2:zg zaq (bC! (jW! (zT (zd 4)) (eX! 3 2) 2 (cw! (a0! zkv (c5! (ar! 1 2) n!)) I!))) (de! t n (e! a) (L! ((z2S n a L).map (fz! k))) x5 x6 x7 x8) bd!=gi! (ab! (fc! (([h! (fS! (z8A n a L)),h! (z8A n a L)])::G))):=by
  rw[xh c];simp only[zaq];rw[zgb,eG]
 have e3:∀(x:Int) (f:Nat),cU! (ab! (fc! ([x,h! f]::G))) 0 bd!=gi! (rD [x,h! f]):=λx f=>kZ! (by decide);have e4:∀(x:Int) (f:Nat),cU! (rD [x,h! f]) 1 bd!=gi! (d! f):=λx f=>rfl;have e5:=bL! (op2 e2 (z00 _ _ dp!)) (e3 _ _);rw[vn,zO,bL! (op2 e5 (z00 _ _ (d! 1))) (e4 _ _)];rfl
theorem zqO{f:Nat}(hf:f<ay!):vC (de! t n (e! a) x4 (e! f) x6 x7 x8) bd!=F! (de! t n (e! a) x4 (e! f) (g5! (cp! f)) x7 x8) bd!:=by
 rw[vC,zO,ic! x!,qT (xC s l6!) hf];rfl
theorem ztt{f:Nat}(hf:f<ay!)(ha:a<ay!):vq (de! t n (e! a) x4 (e! f) x6 x7 x8) bd!=F! (de! t n (e! a) x4 (e! f) x6 x7 x8) (s++[fH! (jJ! f dX!)]):=by
 rw[vq,z27 (by rw[ic! x!,qT (xC s l6!) ha]) x! x! (xC s _) (by lia) (by simp;lia) (z2Z _),z5T,_ba];rfl
theorem ztc{r:g!}(ha:a<ay!):vE (fR! (g5! r)) bd!=F! (fR! (g5! r)) (s++[fH! (jJ! a r)]):=by
 rw[vE,z27 x! x! x! (xC s _) (by lia) (by simp;lia) (z2Z _),z5T,_ba];rfl
theorem zo7{k:Nat} {hd:g!} (hk:k<ay!) (hr:∀r∈L,a<aE!) (ha:a<hd.length) (nz:jk! 0≠0) (bd:bA! (jk! 0)<BIG):uj (hm! lR! bU! x8) bd!=F! (hm! lR! bU! (e! ((c8!).fdiv (jk! 0)))) bd!:=by
 have e:=el2 (ρ:=hm! lR! bU! x8) (a:=2) (b:=7) (c:=3) (xC s _) rfl rfl rfl hk (oH! _ hk);have e2:eOp dIx (zd 6) ba! (hm! lR! bU! x8) bd!=gi! (d! (jk! 0)):=by rw[ic! x!,zmG ha]
 rw[uj,zO,op2 e e2,zjp nz bd];rfl
theorem zpH{k:Nat}{q:Int}{hd:g!}(hk:k<ay!)(hl:hd.length<=100)(bq:ok!<2 ^ (2 ^ 16))(bh:∀x∈hd,dc! (2 ^ 16)):um (hm! lR! bU! (e! q)) bd!=F! (hm! lR! bU! (e! q)) (s++[fH! (jJ! k (z01 q hd dB!))]):=by
 rw[um,z27 (zdp (xC s _) rfl rfl rfl rfl hk hl bq bh) x! x! (xC s _) (by lia) (by simp;lia) (z2Z _),z5T,_ba];rfl
end
theorem pw{b c:Nat}(h:b<=c):2 ^ b<=2 ^ c:=_B (by decide) h
theorem zuk{x:Nat}(h:x<C2):x<BIG:=_i h (pw (by decide))
theorem zr9{x:Nat}(h:x<C2):x+1<2 ^ (2 ^ 16):=_bO h (Nat.pow_lt_pow_right (by decide) (by decide))
theorem zrx{x:Nat}(h:x<C8):x<2 ^ (2 ^ 16):=_i h (pw (by decide))
theorem zci{L:Tb}{k:Nat}{x:Int}(h:x∈dB!):∃j,x=hs! k:=by
 obtain⟨j,hj,e⟩:=gu! h;exact⟨j,by rw[at2,_n ,_b hj];exact e.symm⟩
section
variable {t:D}{n a:Nat}{L:Tb}{s:Sto}{x4 x5 x6 x7 x8:fg!}
theorem zpU{hd:g!} (hn:n<=4) (ha:a<n) (hl:ay!=n) (hr:∀r∈L,aE!=n+n) (hh:hd.length=n+n) (nz:jk! 0≠0) (bd:bA! (jk! 0)<C2) (bh:∀x∈hd,l3!<C8) (bc:∀k,a<k->k<n->fS! k<C2): ∃y7 y8,wK (fR! lR!) bd!=F! (hm! lR! y7 y8) (s++[fH! (kf! a (n-1-a) L)]):=by
 have hi:zcn (cg! (gH! 3) 1) (fR! lR!) bd!=gi! ((aS! (n-(a+1)) (λk=>a+1+k)).map (fz! k),[]):= zgD (by rw[ic! (z00 ..),z81];rfl) x! (by lia) (by lia);obtain⟨ρ',s',e,y7,y8,e1,e2⟩:=z10 (body:=d5! (yh 7 d ρ s) ((zA uj um) ρ' s')) (λj ρ S=>∃y7 y8,ρ=hm! lR! y7 y8/\S=s++[fH! (kf! a j L)]) ((aS! (n-(a+1)) (λk=>a+1+k)).map (fz! k)) 0 (λj x hx ρ S hI=>by
   obtain⟨y7,y8,rfl,rfl⟩:=hI;rw[_ap];have hj:j<n-(a+1):=by have:=cE! hx;simpa using this
   have ex:x=d! (Z! (a+1+j)):=by
    rw[_z,_z,_aD hj]at hx;exact (_I hx).symm
   have len:r! (kf! a j L)=n:=by rw[z2b,hl]
   have get:=z50 (a:=a) (hd:=hd) (L:=L) j (by lia);have bI:∀r∈kf! a j L,a<aE!:=λr cV=>by
    obtain⟨k,hk,e⟩:=gu! cV;have e':r=hO! (kf! a j L) k:=by rw[_n,_b hk];exact e.symm
    rw[e',get];have lk:=hr _ (getD_mem (k:=k) (by lia));split;·rw[z5c (by lia)];lia
    ·lia
   have ek:at2 (kf! a j L) (a+1+j) a=b0! (a+1+j):=by rw[at2,get,_q (by lia)];rfl
   have f1:=zo7 (t:=t) (n:=n) (s:=s) (x4:=x4) (x5:=x5) (x8:=y8) (k:=a+1+j) (by lia) bI (by lia) nz (zuk bd);have q:=(fd (x:=b0! (a+1+j)) nz).2.2.1;have bq:bA! ((at2 (kf! a j L) (a+1+j) a).fdiv (jk! 0))<2 ^ (2 ^ 16):=by
    rw[ek];have h1:=zr9 (bc (a+1+j) (by lia) (by lia));have h0:1<=bA! (jk! 0):=by lia
    refine _bO ?_ h1;generalize bA! ((b0! (a+1+j)).fdiv (jk! 0))=Q at q ⊢;generalize bA! (jk! 0)=Hh at q h0;generalize fS! (a+1+j)=X at q;apply _X;intro z;have h2:(X+2)*Hh<=Q*Hh:=_ay _ (by lia);have h3:X<=X*Hh:=_bS _ h0;rw[Nat.add_mul]at h2;lia
   have f2:=zpH (t:=t) (n:=n) (a:=a) (L:=kf! a j L) (s:=s) (x4:=x4) (x5:=x5) (k:=a+1+j) (hd:=hd) (by lia) (by lia) bq (ap! (zrx (bh x hx)));refine⟨_,_,?_,e! (Z! (a+1+j)),e! ((at2 (kf! a j L) (a+1+j) a).fdiv (jk! 0)),rfl,rfl⟩;rw[ex,ve,Rb];exact kQ! f1 f2) (fR! lR!) bd! (eS! x7 x8 rfl);refine aQ! y7 y8 ?_;rw[wK,qJ,hi,Rb];refine qf! ?_;rw[e1,e2];simp only[_W,List.length_range,_ap];rw[show n-(a+1)=n-1-a by lia]
theorem znI(hn:n<=4)(ha:a<n)(hl:ay!=n)(hr:∀r∈L,aE!=n+n)(h:∃k,a<k/\k<n/\c8!≠0)(b1:∀i,i<n->∀j,hI! i j<C8)(b2:∀i,a<=i->i<n->fS! i<C2): ∃y4 y5 y6 y7 y8,zA vk (dw! vn vC vq vE wK) (fR! x6) bd!=F! (de! t n (e! a) y4 y5 y6 y7 y8) (s++[fH! (pas n a (z8A n a L) L)]):=by
 obtain⟨_,_,M⟩:=zhf hn h;rw[zn (zrm hn ha hl hr),zn (zrC hn ha hl hr h)];have fl:=M.lt;have pC:=M.le;have pE:=M.nz;generalize z8A n a L=f at *;have fY:f<ay!:=by lia
 rw[zn (zqO fY),zn (ztt fY (by lia)),zn (ztc (by simp;lia))];have eg:∀k,hO! ((jJ! f dX!).set a (cp! f)) k=af! a k (cp! f) (af! f k dX! dB!):=λk=>by rw[ur _ _ _ _ (by simp;lia),ur _ _ _ _ fY]
 obtain⟨y7,y8,e⟩:=zpU (L:=(jJ! f dX!).set a (cp! f)) hn ha (by simp[hl]) (λr cV=>by
   rcases _A cV with h | rfl
   ·rcases _A h with h | rfl;·exact hr r h
    ·exact oH! _ (by lia)
   ·exact oH! _ fY) (oH! _ fY) pE (b2 f pC fl) (ap! (by
   obtain⟨j,rfl⟩:=zci hx;exact b1 f fl j)) (ol! (by
   rw[at2,eg,_q (by lia)];split;·exact b2 a ah! ha
   ·exact b2 k (by lia) h2));exact⟨_,_,_,y7,y8,e⟩
theorem zfI(hn:n<=4) (ha:a<n) (hl:ay!=n) (hr:∀r∈L,aE!=n+n):∃b,tOf (eOp dNe (zv (zT (eG! I! (gH! 3))) (au! 3) cc! (hc! (gb! 1) D!) o!) (kY zm)) (fR! x6) bd!=gi! b/\(b=c! ↔ ∃k,a<k/\k<n/\c8!≠0):=by
 have sl:eSl I! (yy (gH! 3)) zD (fR! x6) bd!=gi! (ab! (fH! (pt! (a+1)))):=by
  have e1:yy (gH! 3) (fR! x6) bd!=gi! (b! (Z! (a+1))):=by
   unfold yy;rw[ic! (z00 ..),z81];rfl
  simp only[eSl,vr (ρ:=fR! x6) (i:=2) rfl,e1,Rb,zD,dSl,Dd.listOf,xC];rw[z5k,_aS]
 have c:=wb (mp:=au! 3) (fg:=cc!) (ft:=hc! (gb! 1) D!) (fe:=o!) rL rL (λr=>cr! (cC! a) 0) (λr=>[e! a,g5! r]) (pt! (a+1)) (qU sl) (λr _=>rfl) (λr cV=>by
   have e:eOp dIx o! n! [e! a,g5! r] bd!=gi! (d! (cC! a)):=by rw[ic! x!,zmG (by rw[hr r (_az cV)];lia)]
   rw[z2j];rw[op2 e (z00 ..),zct]) (λr _ _=>x!) (by simp[cap];lia);have ok:okD 2 (ab! (fH! (fW! (pt! (a+1)) (λr=>cr! (cC! a) 0))))=c!:=by
  simp only[okD,_S];intro x hx;obtain⟨r,_,rfl⟩:=jY!;simp[rL,okD,_S]
 refine bG! (z2j (by rw[op2 c (by simp;rfl)];exact ne_nil ok (by decide) _)) ?_;simp only[List.isEmpty_map];constructor
 ·intro h;cases q:fW! (pt! (a+1)) (λr=>cr! (cC! a) 0) with
  | nil=>rw[q]at h;simp at h | cons r w=>
   have m:r∈fW! (pt! (a+1)) (λr=>cr! (cC! a) 0):=by rw[q];exact ju!
   obtain⟨m1,m2⟩:=_bo.mp m;obtain⟨i,hi,e⟩:=gu! m1;rw[List.getElem_drop]at e;have pF:a+1+i<ay!:=by simp at hi;lia
   refine⟨a+1+i,by lia,by lia,?_⟩;rw[at2,_n (l:=L),_b pF];show bg! (L[a+1+i]) a≠0;rw[e];exact _c3 m2
 ·rintro⟨k,h1,h2,h3⟩;have hk:k<ay!:=by lia
  have m:dB!∈fW! (pt! (a+1)) (λr=>cr! (cC! a) 0):=by
   refine _bo.mpr ⟨?_,decide_eq_true h3⟩;rw[_n,_b hk];exact _o.mpr ⟨k-(a+1),by simp;lia,by rw[List.getElem_drop];simp only[_aB];congr 1;lia⟩
  cases q:fW! (pt! (a+1)) (λr=>cr! (cC! a) 0) with
  | nil=>rw[q]at m;simp at m | cons=>rfl
theorem ziA(hn:n<=4)(ha:a<n):∀{m:Nat}{L L':Tb}{x4 x5 x6 x7 x8:Option D},ay!=n->(∀r∈L,aE!=n+n)->Lr (z8A n a) n a m L L'->∃y4 y5 y6 y7 y8,uU (fR! x6) bd!=F! (de! t n (e! a) y4 y5 y6 y7 y8) (s++[re!]):=by
 intro m L L' x4 x5 x6 x7 x8 hl hr lr;have key:∃y4 y5 y6 y7 y8,wT (hc! (zv (zT (eG! I! (gH! 3))) (au! 3) cc! (hc! (gb! 1) D!) o!) (kY zm)) (zA vk (dw! vn vC vq vE wK)) (m+1) (fR! x6) bd!=F! (de! t n (e! a) y4 y5 y6 y7 y8) (s++[re!]):=by induction lr generalizing x4 x5 x6 x7 x8 with
  | @done L h=>
   obtain⟨b,e,hb⟩:=zfI hn ha hl hr;have:b=t!:=by cases b with
    | false=>rfl | true=>obtain⟨k,h1,h2,h3⟩:=hb.mp rfl;exact cN! (h k h1 h2) h3
   subst this;refine⟨x4,x5,x6,x7,x8,?_⟩;simp only[wT];rw[e];rfl | @step m L L' h r l M b1 b2 q ih=>
   obtain⟨b,e,hb⟩:=zfI hn ha hl hr;have := hb.mpr h;subst this;obtain⟨z4,z5,z6,z7,z8,p⟩:=znI hn ha hl hr h b1 b2;have len:r! (pas n a (z8A n a L) L)=n:=by simp[pas,z2b,hl]
   have bI:∀r∈pas n a (z8A n a L) L,aE!=n+n:=by
    have all:∀j,a+1+j<=n->∀r∈elim a (cp! (z8A n a L)) j ((jJ! (z8A n a L) dX!).set a (cp! (z8A n a L))),aE!=n+n:=by
     have hf:r! (cp! (z8A n a L))=n+n:=oH! _ (by have:=M.lt;lia);intro j;induction j with
     | zero=>
      intro _ r cV;rcases _A cV with h | rfl
      ·rcases _A h with h | rfl;·exact hr r h
       ·exact oH! _ (by lia)
      ·exact hf | succ j ih=>
      intro hj r cV;simp only[elim]at cV;rcases _A cV with h | rfl;·exact ih (by lia) r h
      ·have:=ih (by lia) _ (getD_mem (k:=a+1+j) (by rw[z2b];simp;lia));rw[z5c (by lia)];exact this
    exact all _ (by lia)
   obtain⟨y4,y5,y6,y7,y8,w⟩:=ih len bI;refine⟨y4,y5,y6,y7,y8,?_⟩;rw[wT,e,Rb];simp only[_x];rw[p,Rb];exact w
 obtain⟨y4,y5,y6,y7,y8,w⟩:=key;exact⟨y4,y5,y6,y7,y8,by rw[uU];exact z2t w (by simp)⟩
end
def bt:Nat->Nat
 | 0=>106 | 1=>426 | 2=>1706 | _=>6826
theorem zhY{a n:Nat}(hn:n<=4)(ha:a<n):(ai! (a+1<n) (4*bt a+2) (bt a))<=bt (a+1):=by rcases (show a=0\/a=1\/a=2\/a=3 by lia) with rfl | rfl | rfl | rfl<;>split<;>simp only[bt]<;>lia
section
variable {t:D}{n:Nat}{T L:Tb}{s:Sto}{x3 x4 x5 x6 x7 x8:fg!}
theorem zt1(hn:a9!) (g:Gd n T L) (hb:∀i,i<n->∀j,hI! i j<2 ^ 106):∃L' y3 y4 y5 y6 y7 y8,jX (de! t n x3 x4 x5 x6 x7 x8) bd!=F! (de! t n y3 y4 y5 y6 y7 y8) (s++[re!])/\Bk n T L' n/\∀i,i<n->∀j,jL! L' i j<2 ^ 6826:=by
 have n4:n<=4:=by unfold Sz at hn;lia
 obtain⟨ρ',s',e,L',y3,y4,y5,y6,y7,y8,e1,e2,g',z',b'⟩:=z10 (all:=ym n) (body:=d5! (yh 3 d ρ s) (uU ρ' s')) (λa ρ S=>∃L' y3 y4 y5 y6 y7 y8,ρ=de! t n y3 y4 y5 y6 y7 y8/\S=s++[re!]/\Gd n T L'/\Zr n a L'/\∀i,i<n->∀j,jL! L' i j<2 ^ bt a) (ym n) 0 (λa x hx ρ S hI=>by
   obtain⟨L1,y3,y4,y5,y6,y7,y8,rfl,rfl,g1,z1,b1⟩:=hI;obtain⟨ha,rfl⟩:=z2y hx;rw[_ap]at z1 b1;rw[_ap];have hf:∀L:Tb,ay!=n->(∃k,a<k/\k<n/\c8!≠0)->Mn n a (z8A n a L) L:=λL _ h=>by
    obtain⟨_,_,M⟩:=zhf (n:=n) (a:=a) (L:=L) n4 h;exact M
   have fin:∃m L2,Lr (z8A n a) n a m L1 L2/\Gd n T L2/\Zr n (a+1) L2/\∀i,i<n->∀j,jL! L2 i j<2 ^ bt (a+1):=by
    by_cases h3:a+1<n
    ·obtain⟨m,L2,lr,g2,z2,b2⟩:=column (f:=z8A n a) hn ha hf g1 z1 b1 (by rcases (show a=0\/a=1\/a=2 by lia) with rfl | rfl | rfl<;>decide);exact⟨m,L2,lr,g2,z2,lp! (_i (b2 i hi j) (pw (zhY n4 ha)))⟩
    ·have z:∀k,a<k->k<n->at2 L1 k a=0:=ol! (by lia)
     refine⟨0,L1,.done z,g1,z1.up z,lp! (_i (b1 i hi j) (pw ?_))⟩;have:=zhY n4 ha;rw[_q h3]at this;exact this
   obtain⟨m,L2,lr,g2,z2,b2⟩:=fin;obtain⟨w4,w5,w6,w7,w8,e⟩:=ziA (t:=t) (s:=s) (x4:=y4) (x5:=y5) (x6:=y6) (x7:=y7) (x8:=y8) n4 ha g1.len g1.row lr;exact⟨_,_,by rw[ve,Rb];exact e,L2,_,w4,w5,w6,w7,w8,rfl,rfl,g2,z2,b2⟩) (de! t n x3 x4 x5 x6 x7 x8) bd! ⟨L,x3,x4,x5,x6,x7,x8,rfl,rfl,g,λc hc=>by lia,hb⟩;have ln:r! (ym n)=n:=by simp[ym]
 rw[ln,_ap]at z' b';refine⟨L',y3,y4,y5,y6,y7,y8,?_,g'.bk hn z',lp! (_i (b' i hi j) (pw ?_))⟩
 ·have hi:jB (co! 1) (de! t n x3 x4 x5 x6 x7 x8) bd!=gi! (ym n,[]):=by
   simp only[zdX,zy,zM,vr (ρ:=de! t n x3 x4 x5 x6 x7 x8) (i:=1) (d:=d! n) rfl,Rb];rw[_h (by lia),_T]
  rw[jX,qJ,hi,Rb];exact qf! (by rw[e1,e2])
 ·rcases hn with rfl | rfl | rfl<;>decide
theorem zgB(d:Int)(r:g!):(m3! (λx=>aJ! (x*d)))=iL (m3! (λx=>x*d)):=by simp[iL]
theorem zoO{a:Nat} (ha:a<ay!) (hr:a<r! dX!) (hl:r! dX!<=100) (b1:∀j,hI! a j<2 ^ (2 ^ 16)):uv (fR! x6) bd!=F! (fR! x6) (s++[fH! (scl a L)]):=by
 have c:=comp_map (fi:=zT (ar! 2 3)) (mp:=eX! 3 2) (fg:=yh 2) (fe:=eOp z7J I! (c5! (gb! 1) n!)) (ρ:=fR! x6) D.int (λx=>aJ! (x*b0! a)) (λx=>[e! a,N!,e! x]) dX! (qU (by rw[ic! x!,qT (xC s _) ha];rfl)) (λx _=>rfl) (ap! (by
   have e:=el2 (ρ:=[e! a,N!,e! x]) (a:=1) (b:=0) (c:=0) (xC s _) rfl rfl rfl ha hr;obtain⟨j,rfl⟩:=zci hx;rw[ic! e];exact zgx (b1 j) (b1 a) _)) (_Y hl (by decide));rw[zgB]at c;rw[uv,z27 (d:=rL ((dX!).map λx=>x*b0! a)) c x! x! (xC s _) (by lia) (by simp;lia) (z2Z _),z5T,_T,<- _ba];rfl
theorem zpK{a:Nat} (hn:n<=4) (ha:a<n) (hl:ay!=n) (hr:∀r∈L,aE!=n+n) (b1:∀i,i<n->∀j,hI! i j<2 ^ (2 ^ 16)): ∃y6 y7 y8,uh (fR! x6) bd!=F! (hm! y6 y7 y8) (s++[fH! (bk a a L)]):=by
 obtain⟨ρ',s',e,y6,y7,y8,e1,e2⟩:=z10 (body:=d5! (yh 7 d ρ s) ((be! uu uy uf) ρ' s')) (λj ρ S=>∃y6 y7 y8,ρ=hm! y6 y7 y8/\S=s++[fH! (bk a j L)]) (ym a) 0 (λj x hx ρ S hI=>by
   obtain⟨y6,y7,y8,rfl,rfl⟩:=hI;obtain⟨hj,rfl⟩:=z2y hx;rw[_ap];have len:r! (bk a j L)=n:=by rw[z86,hl]
   have get:=zgE (a:=a) (L:=L) j (by lia) (by lia);have ga:hO! (bk a j L) a=dX!:=by rw[get,_q (by lia)]
   have gj:hO! (bk a j L) j=cp! j:=by rw[get,_q (by lia)]
   have ej:at2 (bk a j L) j a=b0! j:=by rw[at2,gj];rfl
   have la:=hr _ (getD_mem (k:=a) (by lia));have lj:=hr _ (getD_mem (k:=j) (by lia));have f1:uu (hm! y6 aV! y8) (s++[fH! (bk a j L)])=F! (hm! (g5! dX!) aV! y8) (s++[fH! (bk a j L)]):=by
    rw[uu,zO,ic! x!,qT (xC s _) (by lia),ga];rfl
   have f2:uy (hm! (g5! dX!) aV! y8) (s++[fH! (bk a j L)])=F! (hm! (g5! dX!) aV! (e! (b0! j))) (s++[fH! (bk a j L)]):=by
    have e:=el2 (s:=s++[fH! (bk a j L)]) (ρ:=hm! (g5! dX!) aV! y8) (a:=2) (b:=7) (c:=3) (xC s _) rfl rfl rfl (by lia) (by rw[gj];lia);rw[uy,zO,e,ej];rfl
   have f3:uf (hm! (g5! dX!) aV! (e! (b0! j))) (s++[fH! (bk a j L)])=F! (hm! (g5! dX!) aV! (e! (b0! j))) (s++[fH! (bk a (j+1) L)]):=by
    have c:=zdp (s:=s++[fH! (bk a j L)]) (ρ:=hm! (g5! dX!) aV! (e! (b0! j))) (xC s _) rfl rfl rfl rfl (by lia) (by lia) (b1 j (by lia) a) (ap! (by
     obtain⟨i,rfl⟩:=zci hx;exact b1 a ha i));rw[uf,z27 c x! x! (xC s _) (by lia) (by simp;lia) (z2Z _),z5T,_T,<- _ba];simp only[bk,ga,ej]
   refine⟨_,_,?_,g5! dX!,aV!,e! (b0! j),rfl,rfl⟩;rw[ve,Rb];exact kQ! f1 (kQ! f2 f3)) (fR! x6) bd! (bj! x6 x7 x8 rfl);have ln:r! (ym a)=a:=by simp[ym]
 refine⟨y6,y7,y8,?_⟩;have hi:jB (co! 3) (fR! x6) bd!=gi! (ym a,[]):=by
  simp only[zdX,zy,zM,vr (ρ:=fR! x6) (i:=3) (d:=fI!) rfl,Rb];rw[_h (by lia),_T]
 rw[uh,qJ,hi,Rb];refine qf! ?_;rw[e1,e2,ln,_ap]
end
def bu:Nat->Nat
 | 0=>6826 | j+1=>2*bu j+1
theorem zeU{i n j:Nat}{x:D}(h:E! (vG (h! i-1) n) j x)(hi:n<=i):j<n/\x=d! (Z! (i-1-j)):=by
 have hj:j<n:=by have:=cE! h;simpa[vG] using this
 refine as! hj ?_;simp only[vG,_z,_aD hj,_af,_y]at h;rw[<- h];congr 1;lia
section
variable {t:D}{n:Nat}{T L:Tb}{s:Sto}{x3 x4 x5 x6 x7 x8:fg!}
theorem zpl(hn:a9!) (g:Bk n T L n) (hb:∀i,i<n->∀j,hI! i j<2 ^ 6826):∃L' y3 y4 y5 y6 y7 y8,jn (de! t n x3 x4 x5 x6 x7 x8) bd!=F! (de! t n y3 y4 y5 y6 y7 y8) (s++[re!])/\Bk n T L' 0:=by
 have n4:n<=4/\2<=n:=by unfold Sz at hn;lia
 obtain⟨ρ',s',e,L',y3,y4,y5,y6,y7,y8,e1,e2,g',b'⟩:=z10 (all:=vG (h! n-1) n) (body:=d5! (yh 3 d ρ s) ((zA uv uh) ρ' s')) (λj ρ S=>∃L' y3 y4 y5 y6 y7 y8,ρ=de! t n y3 y4 y5 y6 y7 y8/\S=s++[re!]/\Bk n T L' (n-j)/\∀i,i<n->∀k,jL! L' i k<2 ^ bu j) (vG (h! n-1) n) 0 (λj x hx ρ S hI=>by
   obtain⟨L1,y3,y4,y5,y6,y7,y8,rfl,rfl,g1,b1⟩:=hI;obtain⟨hj,rfl⟩:=zeU hx ah!;rw[_ap]at g1 b1;rw[_ap];have ha:n-1-j<n:=by lia
   rw[show n-j=n-1-j+1 by lia]at g1;have wide:bu j<=2 ^ 16:=by rcases (show j=0\/j=1\/j=2\/j=3 by lia) with rfl | rfl | rfl | rfl<;>decide
   have bw:∀i,i<n->∀k,jL! L1 i k<2 ^ (2 ^ 16):=λi hi k=>_i (b1 i hi k) (pw wide);generalize ea:n-1-j=a at *;have la:=g1.rl ha;have f1:=zoO (t:=t) (n:=n) (s:=s) (x4:=y4) (x5:=y5) (x6:=y6) (x7:=y7) (x8:=y8) (L:=L1) (a:=a) (by rw[g1.len];exact ha) (by lia) (by lia) (bw a ha);have sl:r! (Pb.scl a L1)=n:=by simp[Pb.scl,g1.len]
   have sr:∀r∈Pb.scl a L1,aE!=n+n:=cy! (by
    rcases _A hr with h | rfl;·exact g1.row r h
    ·rw[_W,la])
   have d1:=g1.dia a (by lia);obtain⟨z6,z7,z8,f2⟩:=zpK (t:=t) (n:=n) (s:=s) (x4:=y4) (x5:=y5) (x6:=y6) (x7:=y7) (x8:=y8) (L:=Pb.scl a L1) (a:=a) n4.1 ha sl sr (λi hi k=>by
    rw[zkB g1 ha];split;·rw[_ax,d1,Nat.mul_one];exact bw a ha k
    ·exact bw i hi k);refine⟨_,_,by rw[ve,Rb];exact kQ! f1 f2,bk a a (Pb.scl a L1),_,y4,y5,z6,z7,z8,rfl,rfl,?_,zmd g1 ha b1⟩;rw[show n-(j+1)=a by lia];exact g1.step ha) (de! t n x3 x4 x5 x6 x7 x8) bd! ⟨L,x3,x4,x5,x6,x7,x8,rfl,rfl,g,hb⟩;have ln:r! (vG (h! n-1) n)=n:=by simp[vG]
 rw[ln,_ap,_dB]at g';refine⟨L',y3,y4,y5,y6,y7,y8,?_,g'⟩;have hi:zfC (zb (kb! 1 ak!) (aO! dQ! dQ!)) (de! t n x3 x4 x5 x6 x7 x8) bd!=gi! (vG (h! n-1) n,[]):=by
  have c1:eOp z7h o! ak! (de! t n x3 x4 x5 x6 x7 x8) bd!=gi! (d! (h! n-1)):=by rw[op2 (x:=d! n) (y:=d! 1) x! (z00 ..),zfD]
  have c2:z1M ak! (de! t n x3 x4 x5 x6 x7 x8) bd!=gi! (d! (-1)):=rfl;simp only[zmX,zy,zM,c1,c2,Rb];rw[_h (by lia)];congr 3;lia
 rw[jn,qJ,hi,Rb];exact qf! (by rw[e1,e2])
theorem zk9(T:Tb):∀U:Tb,z3S nh! (U.map rD)=ji! T U (iF! [rD p.1,rD p.2]):=by induction T with
 | nil=>intro U;simp[z3S] | cons a T ih=>
  intro U;cases U with
  | nil=>simp[z3S] | cons b U=>simp only[_p,z3S,_bn,ih U]
theorem zgM(T:Tb):∀U:Tb,ji! T U (λp=>rL (p.1++p.2))=fH! (ks! (λa b=>a++b) T U):=by induction T with
 | nil=>intro U;simp | cons a T ih=>
  intro U;cases U with
  | nil=>simp | cons b U=>simp only[_bn,_p,_ai,ih U]
theorem zrj(hn:a9!) (hT:gK!):kG [b6! T,aB!,a!,a!,a!,a!,a!,a!,a!] s=F! (de! (tD T) n a! a! a! a! a! a!) (s++[fH! (lay T)]):=by
 have n4:n<=4:=by unfold Sz at hn;lia
 have pl:zg Pg.xu (co! 1) [b6! T,aB!,a!,a!,a!,a!,a!,a!,a!] s=gJ! bS!:=by rw[lS!];exact zdY n4 s
 have hi:z4P (aO! n! (cA! Pg.xu 1)) [b6! T,aB!,a!,a!,a!,a!,a!,a!,a!] s=k! (ji! T bS! (iF! [rD p.1,rD p.2]),[]):=by
  simp only[z4P,zy,vr (ρ:=[b6! T,aB!,a!,a!,a!,a!,a!,a!,a!]) (i:=0) rfl,pl,Rb];show et! (z3S nh! (fc! bS!),[]++[]) s=_;rw[zk9];rfl
 have c:=z6X (mp:=iH!) (fg:=yN 0 1) (fe:=bc! (bq! z6W) (cA! z6W 1)) (λp:List Int×List Int=>gv! [rD p.1,rD p.2]) (λp=>rL (p.1++p.2)) (λp=>[bX! p.1,bX! p.2]) (rs! T bS!) hi (λp _=>rfl) (bo! (by
   have e1:zg z6W (co! 0) [bX! p.1,bX! p.2] s=k! (rL p.1):=by rw[lS!];rfl
   have e2:zg z6W (co! 1) [bX! p.1,bX! p.2] s=k! (rL p.2):=by rw[lS!];rfl
   obtain⟨m1,m2⟩:=lO!;have l1:=hT.row _ m1;have l2:=(z9R n).row _ m2;rw[op2 e1 e2];simp only[rL,zdC];rw[_h (by simp[cap];lia)];simp[iL])) (by simp[cap,hT.len];lia) (by rw[zgM];exact zdT _);rw[zgM]at c;rw[kG,zO,c];simp only[lay,hT.len];rfl
theorem zpm(r:g!)(n:Nat)(s:Sto):dSl (rL r) (b! (h! n)) a! s=k! (rL mt!):=by
 simp only[rL,dSl,Dd.listOf];rw[z5k];simp[_aS]
theorem zpY(hl:ay!=n) (hn:n<=4):jp (de! t n x3 x4 x5 x6 x7 x8) bd!=gi! (.rt (tD (sl! n))):=by
 have hi:zT I! (de! t n x3 x4 x5 x6 x7 x8) bd!=gi! (l6!,[(cf!,l6!)]):=by
  rw[jq,x!,Rb];simp only[xC]
 have c:=zgg (mp:=b4!) (fg:=cc!) (fe:=pA! (eG! o! n!)) rL (λr=>rD mt!) (λr=>[aB!,g5! r]) L hi (bo! (by
   simp only[_bj]at hp;subst hp;exact xC s _)) (λr _=>rfl) (λr _=>by
   have e:eSl o! (yy n!) zD [aB!,g5! r] bd!=gi! (rL mt!):=by
    have e1:yy n! [aB!,g5! r] bd!=gi! (b! (h! n)):=by
     unfold yy;rw[x!];rfl
    simp only[eSl,vr (ρ:=[aB!,g5! r]) (i:=1) rfl,e1,Rb,zD,zpm]
   rw[xh e];rfl) (by simp[cap,hl];lia);rw[jp,yo,xh c];simp[zW,zV,_aj]
theorem zoh(hn:a9!) (hT:gK!) (hf:z08 T) (hb:Bd 106 T) (s:Sto):qD [tD T] s=gJ! (gx! T):=by
 have n4:n<=4:=by unfold Sz at hn;lia
 have key:∀d:D,d=tD T->qD [d] s=gJ! (gx! T):=hY! (by
  have st:zx [i9!,fu!,kr!,ev!,"_law_good","_law_first","_law_head",cP!,iA!] [d]=[i!,a!,a!,a!,a!,a!,a!,a!,a!]:=rfl;have f1:kc [i!,a!,a!,a!,a!,a!,a!,a!,a!] s=a6! [i!,aB!,a!,a!,a!,a!,a!,a!,a!]:=by
   rw[kc,zO,lS!,hd];simp[yM,zV,hT.len]
  have f2:=zrj (s:=s) hn hT;rw[<- hd]at f2;obtain⟨L1,y3,y4,y5,y6,y7,y8,f3,g1,b1⟩:=zt1 hn (zoB hn hT hf) (zqf hn hT hb (by decide));obtain⟨L2,z3,z4,z5,z6,z7,z8,f4,g2⟩:=zpl hn g1 b1;have f5:=zpY (t:=d) (s:=s) (x3:=z3) (x4:=z4) (x5:=z5) (x6:=z6) (x7:=z7) (x8:=z8) g2.len n4;rw[zjR hn hT hf g2]at f5;simp only[qD,z69,Mof,z3I,st,_j,_l,_x];rw[zn f1,zn f2,zn f3,zn f4,f5];simp only;rw[z0U (z8k _)];simp)
 exact key _ rfl
end
theorem run_eq:ku=z0P:=rfl
noncomputable def L8(a0 a1 a2 a3 a4 a5 a6 a7:fg!):Ev:=[a0,a1,a2,a3,a4,a5,a6,a7]
theorem z66{n m:Nat}{r:Rl}{x:g!}{B:Int}{G:f3! Nat C!}{all:C!}{a0 a1 a2 a3 a6 a7:fg!}{S:Sto}(og:okG G all S)(hn:a9!)(hB:B<2 ^ m)(hm:m<=hA!)(hx:∀y∈x,y<=B){c:g!}{ls:fC!}(Rn:fP! c):∀(P:Tb)(z:Option D),oo! m c->PI n B P c x-> ∃z',yL G all (d5! (yh 5 d ρ s) (ug ρ' s')) eW! (L8 a0 a1 a2 a3 (b6! P) z a6 a7) S=F! (L8 a0 a1 a2 a3 (b6! ((jg!).foldl jw P)) z' a6 a7) S:=by induction Rn with
 | done he=>intro P z h I;exact⟨z,by simp[zK,yL,og]⟩ | @step v ls he R2 ih=>
  intro P z h I;have tb:=z0R r dt! he;have mm:=zmj S hn I.tab tb (zmC I hB) (zha r h he) (by lia) (by lia);rw[<- zjG]at mm;obtain⟨z',ih⟩:=ih (jw P fq!) kc! (oQ! he) (I.step r hx dt! he);refine as! z' ?_;have body:ug (L8 a0 a1 a2 a3 (b6! P) kc! a6 a7) S=F! (L8 a0 a1 a2 a3 (b6! (jw P fq!)) kc! a6 a7) S:=by rw[ug,zO,ni! x!,mm];rfl
  rw[R2.tabs_cons,_p,yL,_h og,ve,Rb];simp only[L8,_F,_C]at body ih ⊢;rw[body,Rb];simp only;rw[ih];rfl
theorem z8x:∀(B:Tb)(k:Nat),z1Q k (ln! rD)=(qV! k).map (iF! [d! (Z! p.2),rD p.1])
 | [],k=>rfl | x::B,k=>by simp[z1Q,z8x B (k+1)]
theorem zhD:∀{z:List Int} {k j:Nat} {g:Int},j<=k->jr! (k-j)=g->0<g->(∀i,i+j≠k->jr! i=0)->(fW! (z.zipIdx j) (λp=>bi! (p.1 > 0))).map (λp=>aJ! (Z! p.2))=[aJ! k]
 | [],k,j,g,_,h1,h2,_=>by simp at h1;lia | x::z,k,j,g,hj,h1,h2,h3=>by
  rcases _aP hj with q | q
  ·have x0:x=0:=by have:=h3 0 (by lia);simpa using this
   have ih:=zhD (k:=k) (j:=j+1) (by lia) (by rw[show k-j=k-(j+1)+1 by lia]at h1;simpa using h1) h2 (e8! (by have:=h3 (i+1) (by lia);simpa using this));simp only[x0];simpa using ih
  ·subst q;have x1:x=g:=by simpa using h1
   have z0:∀p∈z.zipIdx (j+1),¬ p.1 > 0:=bo! (by
    obtain⟨i,hi,e⟩:=gu! hp;have e1:p.1=jr! i:=by
     rw[<- e,List.getElem_zipIdx];simp only[List.length_zipIdx]at hi;simp[hi]
    rw[e1];have:=h3 (i+1) (by lia);simp at this;simp[this])
   have nil:fW! (z.zipIdx (j+1)) (λp=>bi! (p.1 > 0))=[]:=_bk.mpr (bo! (by simpa using z0 p hp))
   simp only[_bB,_aC,nil];rw[_h (by simp[x1];exact h2)];rfl
theorem zej{α:cd!}(f:α->D):∀(B:List α)(j:Nat),(qV! j).map (λp=>f p.1)=ln! f
 | [],_=>rfl | x::B,j=>by simp only[_bB,_p,zej f B (j+1)]
theorem zr6{xs:C!}{i:Int}{d:D}{s:Sto}(h0:0<=i)(h:E! xs i2! d):cU! aD! i s=k! d:=by
 have hj:=cE! h;have e:kA! i=b! i2!:=by
  unfold ixN;rw[_h h0,_h (by lia)]
 simp only[dIx,zV,atI,e,_L,h]
theorem zoy{xs:C!}{l:Nat}{d:D}{s:Sto}(hs:E! s l xs)(h:xs.getLast? = i!):cU! ea! (-1) s=k! d:=by
 rw[List.getLast?_eq_getElem?]at h;have hj:=cE! h;have e:kA! (-1)=b! (v!-1):=by
  unfold ixN;rw[_q (by lia),_h (by lia)];congr 1;lia
 simp only[dIx,zV,hs,atI,e,_L,h]
theorem zea{α:cd!}(f:α->D):∀(B:List α)(k j:Nat),j<=k->(fW! (qV! j) (λp=>bi! (Z! p.2≠h! k))).map (λp=>f p.1)=(B.eraseIdx (k-j)).map f
 | [],k,j,_=>by simp | x::B,k,j,hj=>by
  rcases _aP hj with q | q
  ·have ih:=zea f B k (j+1) (by lia);simp only[_bB,_aC];rw[_h (by simp;lia),show k-j=k-(j+1)+1 by lia];simp only[_p,List.eraseIdx_cons_succ,ih]
  ·subst q;have all:fW! (qV! (j+1)) (λp=>bi! (Z! p.2≠h! j))=qV! (j+1):=_bH.mpr (bo! (by
    have:=List.le_snd_of_mem_zipIdx hp;simp;lia))
   simp only[_bB,_aC,all,_dB,List.eraseIdx_cons_zero];rw[_q (by simp)];exact zej f B (j+1)
section
variable {n:Nat}{v:g!}{r:Rl}{ls:fC!}{z:g!}{k:Nat}{B:Tb}{b:g!}
theorem znD(h:lN!) (S:Sh r n v ls z k B b) (s:Sto):uC [by!,aw!] s=bw! (aP!::ha!):=by
 have n4:2<=n/\n<=4:=by have:=h.sz;unfold Sz at this;lia
 have key:hz! (d=by!->e=aw!->uC [d,e] s=bw! (aP!::ha!)):=qO! (by
  have st:zx [fv!,dL!,pe!,pf!,"_law_whole_here",i9!,hy!,ev!] [d,e]=L8 i! A! a! a! a! a! a! a!:=rfl;have lr:=zqr r h S.run (by decide) S.len s;rw[<- hd,<- he]at lr;have f1:jl (L8 i! A! a! a! a! a! a! a!) s=F! (L8 i! A! N! iS! a! a! a! a!) (s++eo! eW!):=by
   rw[jl,zhJ,ni! x!,run_eq,lr,Rb];rfl
  have f2:ju (L8 i! A! N! iS! a! a! a! a!) (s++eo! eW!)=F! (L8 i! A! N! iS! (b6! bS!) a! a! a!) (s++eo! eW!):=by
   have gl:∀s,yM [e] s=u! n:=λs=>by rw[he];simp[yM,zV,h.len]
   rw[ju,zO,xh (by rw[lS!,gl]),zdY n4.2];rfl
  have g2:E! (s++eo! eW!) (cf!+1) eW!:=z9e.2;obtain⟨b5,lp⟩:=z66 (G:=[(cf!+1,eW!)]) (by
    intro p hp;simp only[_w,_aI,_ch]at hp;subst hp;exact g2) h.sz (B:=2 ^ 104-1) (by decide) (by decide) (cO! (by have:=h.bd y hy;lia)) S.run bS! none h (PI.start dt! (cO! (by have:=h.bd y hy;lia)));have f3:jr (L8 i! A! N! iS! (b6! bS!) a! a! a!) (s++eo! eW!)=F! (L8 i! A! N! iS! (b6! hn!) b5 a! a!) (s++eo! eW!):=by
   rw[jr,qJ,jq,x!,Rb];simp only[g2,Rb];exact lp
  have f5:jj (L8 i! A! N! iS! (b6! hn!) b5 a! a!) (s++eo! eW!)=F! (L8 i! A! N! iS! (b6! hn!) b5 (b6! B) a!) (s++eo! eW!):=by
   have mb:=zoh jc! S.ptab S.fair (λx hx y hy=>_i (S.pbd x hx y hy) (pw (by decide))) (s++eo! eW!);rw[<- S.B_]at mb;rw[jj,zO,lS!,mb];rfl
  generalize hA:eW!=A at *;generalize tD hn!=P at *;have g1:E! (s++eo! A) cf! pv!:=z9e.1;have f6:jy (L8 i! A! N! iS! (b! P) b5 (b6! B) a!) (s++eo! A)=F! (L8 i! A! N! iS! (b! P) b5 (b6! B) bU!) (s++eo! A):=by
   have el:eOp dIx I! dQ! (L8 i! A! N! iS! (b! P) b5 (b6! B) a!) (s++eo! A)=.ok (rD z) (s++eo! A):=by
    rw[ic! rfl];exact zoy g1 (by rw[List.getLast?_map,S.last];rfl)
   have c:=wb (mp:=iH!) (fg:=yN 0 1) (ft:=gA! dGt o! D!) (fe:=n!) (λp:Int×Nat=>gv! (bO! (Z! p.2) p.1)) (λp=>aJ! (Z! p.2)) (λp=>bi! (p.1 > 0)) (λp=>[e! (Z! p.2),e! p.1]) (z.zipIdx 0) (z8Z el) (λp _=>rfl) (λp _=>by
     refine z2j ?_;rw[ic! rfl];simp) (λp _ _=>x!) (by have:=S.lot.len;simp[cap];lia);rw[zhD gM! S.zk S.g0 (e8! (S.zo i (by lia)))]at c;rw[jy,zO,op2 c rfl];rw[show cU! (ab! [aJ! k]) 0 (s++eo! A)=.ok (d! k) (s++eo! A) from rfl];rfl
  have f7:jx (L8 i! A! N! iS! (b! P) b5 (b6! B) bU!) (s++eo! A)=.ok (.rt (ab! (aP!::ha!))) (s++eo! A):=by
   have e1:kY (bC! (ar! 6 7)) (L8 i! A! N! iS! (b! P) b5 (b6! B) bU!) (s++eo! A)=.ok (ab! [aP!]) (s++eo! A):=by
    have e0:eOp dIx (zd 6) (zd 7) (L8 i! A! N! iS! (b! P) b5 (b6! B) bU!) (s++eo! A)=.ok aP! (s++eo! A):=by
     rw[ic! x!];exact zr6 (by lia) (by rw[_z,_T,S.at_];rfl)
    simp only[z6p,zy,zM,e0,Rb];rw[_h (by simp[cap])]
   have c:=wb (fi:=z1S (co! 6)) (mp:=dz! 7) (fg:=yN 1 2) (ft:=d7! 1 n!) (fe:=I!) (ρ:=L8 i! A! N! iS! (b! P) b5 (b6! B) bU!) (s:=s++eo! A) (λp:List Int×Nat=>gv! [d! (Z! p.2),rD p.1]) (λp=>rD p.1) (λp=>bi! (Z! p.2≠h! k)) (λp=>[bU!,e! (Z! p.2),bX! p.1]) (qV! 0) (by simp only[z1S,zy,zM,vr (ρ:=L8 i! A! N! iS! (b! P) b5 (b6! B) bU!) (i:=6) (d:=tD B) rfl,Rb,z8c,tD,z8x]) (λp _=>rfl) (λp _=>by
     refine z2j ?_;rw[op2 (x:=d! (Z! p.2)) (y:=d! k) x! x!,zct]) (λp _ _=>x!) (by have:=S.tab.len;simp[cap];lia);rw[zea rD B k 0 gM!,Nat.sub_zero]at c;rw[jx,yo,op2 e1 c,zdC,_h (by have:=S.tab.len;have:=List.length_eraseIdx_le B k;simp[cap];lia)];rfl
  simp only[uC,z69,Mof,z2v,st,_j,_l,_x];rw[zn f1,zn f2,zn f3,zn f5,zn f6,f7];simp only;rw[z0U];·simp
  ·exact z8k (b::lq!))
 exact key _ _ rfl rfl
end
theorem ze2(s:Sto):wL [.exc gR!] s=k! (ax! az!):=by kernel_rfl
theorem zfG(s:Sto):wL [.exc gS!] s=k! (ax! cZ!):=by kernel_rfl
theorem zhv{w:Int}{d e:D}{s s':Sto}{r:D}(h:xI [e! w,i!,A!,a!] s=bR! (.rt r)):zI [d! w,d,e] s=bR! r:=by
 have st:zx ["_law_way",d4!,dK!,pp!] [d! w,d,e]=hj! (d! w) d e:=rfl;simp only[zI,Mof,z0t,st,_j,_l,_x,jS,zpp];rw[h]
theorem zcV{w:Int}{d e:D}{s:Sto}{c x:Str}(hc:c∈rsX)(hk:wL [.exc c] s=k! bQ!)(h:xI [e! w,i!,A!,a!] s=ec!):zI [d! w,d,e] s=k! bQ!:=by
 have st:zx ["_law_way",d4!,dK!,pp!] [d! w,d,e]=hj! (d! w) d e:=rfl;have e':jR (iK! (gW! 4 a!) 3 (.exc c)) s=k! (.rt bQ!):=by rw[jR,yo,xh (by rfl),hk];rfl
 simp only[zI,Mof,z0t,st,_j,_l,_x,jS,zpp];rw[h];simp only[_h hc,Nat.reduceAdd];rw[e']
theorem zpG{w:Int}{d e:D}{s:Sto}{x:Str}{X:Mir}(h0:cU! (ab! [.fn mR!,.fn mQ!]) w s=k! (.fn x))(hx:rP! [(mR!,vA),(mQ!,yP)]=b! X):xI [e! w,i!,A!,a!] s=z! (X [d,e] s) (λr s1=>T! (.rt r)):=by
 have c2:dM! 2<=cap:=by decide
 rw[xI,yo];simp only[zhI,yx,z6p,zy,zM,z00,yf,_c,_d,Rb,_j,_l,_h c2,h0,hx]
theorem zhy{d e:D}{s:Sto}:xI (fh! dp! d A!) s=z! (vA [d,e] s) (λr s1=>T! (.rt r)):=zpG rfl rfl
theorem zkV{d e:D}{s:Sto}:xI [e! 1,i!,A!,a!] s=z! (yP [d,e] s) (λr s1=>T! (.rt r)):=zpG rfl rfl
theorem zsy{n m:Nat}{v:g!}{d:D}{b:Bool}{s:Sto}(h:eJ!)(hc:wO [aw!,d,d! fM!] s=aM! b):yP [aw!,d] s=aM! b:=by
 have w1:=z7B dt! s;have w2 := zhM.ok (zjC dt! s);have key:∀e:D,xQ [e] s=eT!->z5i [e] s=u! fM!->wO [e,d,d! fM!] s=aM! b->yP [e,d] s=aM! b:=λe a1 a2 a3=>by simp[yP,kT,qh,zx,a1,a2,a3]
 exact key _ w1 w2 hc
theorem zpQ{d e:D}{s:Sto}{c:Str}(h:xQ [d] s=ec!):yP [d,e] s=ec!:=by simp[yP,kT,qh,zx,h]
theorem zmv{d e:D}{s:Sto}{c:Str}(h:zB [d,e] s=ec!):yX [d,e] s=ec!:=by
 have:=zfc h;simp[yX,kT,jz,zx,this]
theorem z8v{d e:D}{s:Sto}{c:Str}(h:zB [d,e] s=ec!):vA [d,e] s=ec!:=by
 have:=zmv h;simp[vA,kT,z1A,zx,this]
theorem z9j:LeM vc z0m:=ra! (rH! z9g) qP!
theorem z7G:LeM uY uW:=ra! (LeS.set (LeE.call z9j)) (LeS.seq (sj! LeS.rfl) (qZ! qP!))
section
variable {n:Nat}{v:g!}{r:Rl}{ls:fC!}{z:g!}{k:Nat}{B:Tb}{b:g!}
theorem zam(h:lN!)(S:Sh r n v ls z k B b)(s:Sto):yX [by!,aw!] s=gJ! B:=by
 have w1:=znJ r h S.run (by decide) S.len s;have w2:=z7G.ok (z8K s jc! S.ptab S.pbd (by decide) S.fair);rw[<- S.B_]at w2;have key:∀d e P T:D,xa [d,e] s=k! P->uW [P] s=k! T->yX [d,e] s=k! T:=λd e P T a1 a2=>by simp[yX,kT,jz,zx,a1,a2]
 exact key _ _ _ _ w1 w2
theorem zhn(h:lN!) (S:Sh r n v ls z k B b) (s:Sto):vA [by!,aw!] s=k! aP!:=by
 have w1:=zam h S s;have w2:=zd2 h S s;have key:hz! (yX [d,e] s=gJ! B->(∀x∈B,xT [rD x,e] s=u! (hq! x))->vA [d,e] s=k! aP!):=λd e a1 a2=>by
  have st:zx dh! [d,e]=hf!:=rfl;have c:=wb (fi:=zT (cM! yX)) (mp:=b4!) (fg:=cc!) (ft:=hc! (ez! xT o! 0) D!) (fe:=o!) (ρ:=hf!) rD rD (λx=>cr! (hq! x) 0) (λx=>[A!,bX! x]) B (z2C (by rw[ni! x!];exact a1)) (λx _=>by simp) (ap! (by
    refine z2j ?_;rw[op2 (by rw[ni! x!];exact a2 x hx) rfl,zct])) (λx _ _=>x!) (by have:=S.tab.len;have:=h.sz;unfold Sz at this;simp[cap];lia);rw[S.fn]at c;simp only[vA,kT,z1A,st,z4c,yo];rw[op2 c rfl];have:cU! (ab! [aP!]) 0 s=k! aP!:=kZ! (by decide);rw[show List.map rD [b]=[aP!] from rfl,this];rfl
 exact key _ _ w1 w2
end
theorem zkG{n:Nat}{v:g!}{r:Rl}{ls:fC!}{z:g!}{k:Nat}{B:Tb}{b:g!}(h:lN!)(S:Sh r n v ls z k B b)(s:Sto):zI [dp!,by!,aw!] s=k! aP!:= zhv (by rw[zhy,zhn h S s];rfl)
theorem zgU{n m:Nat}{v:g!}{d:D}{b:Bool}{s:Sto}(h:eJ!)(hc:wO [aw!,d,d! fM!] s=aM! b):zI [d! 1,aw!,d] s=aM! b:= zhv (by rw[zkV,zsy h hc];rfl)
theorem zbh{d e:D}{s:Sto}(hd:vt [d] s=cS!):zI [dp!,d,e] s=k! (ax! cZ!):= zcV (by decide +kernel) (zfG s) (by rw[zhy,z8v (zfx hd)];rfl)
theorem ziL{e:D}{s:Sto}(r:Rl)(he:yt [e] s=cS!):zI [dp!,by!,e] s=k! (ax! az!):= zcV (by decide +kernel) (ze2 s) (by rw[zhy,z8v (zk0 he)];rfl)
theorem zfK{d e:D}{s:Sto}(hd:yt [d] s=cS!):zI [d! 1,d,e] s=k! (ax! az!):= zcV (by decide +kernel) (ze2 s) (by rw[zkV,zpQ (z2s hd)];rfl)
theorem zoN{d:D} {n:Nat} (hk:Kd d) (hn:dm! n) (s:Sto):yJ [d,d! n] s=aM! (z0M n d):=by cases d with
 | tup ys=>
  have st:zx [ja!,iA!] [p! ys,d! n]=[b! (p! ys),aB!]:=rfl;simp only[yJ,Mof,vY,st,qR,yo];by_cases h:dr!=n
  ·have c:=comp_map (fi:=cF!) (mp:=[a!]) (fg:=yh 0) (fe:=bq! vf) (ρ:=[b! (p! ys),aB!]) (s:=s) (λx=>x) (λx=>D.bl (isI x)) (λx=>[dR!]) ys (by rw[List.map_id' ys];exact z2C x!) (λx _=>rfl) (ap! (by rw[lS!];exact z0p (hk x hx) s)) (by simp[cap];lia);have g:=xh (M:=zft) c;rw[z9f]at g;have h':(h! dr!=n):=by lia
   have e1:eIs dd! n! [b! (p! ys),aB!] s=bN!:=by simp[gIs,tyD,isT]
   have e2:eOp dEq fj! o! [b! (p! ys),aB!] s=bN!:=by simp[yM,zV,h']
   rw[z8s,e1,Rb];simp only[_x];rw[z8s,e2,Rb];simp only[_x];rw[g];simp[z0M,h]
  ·have h':¬ (h! dr!=n):=by lia
   simp[gIs,tyD,isT,yM,zV,h',z0M,h] | scr _=>exact hk.elim | _=>
  have hd:=hk.ty;first
  | (exfalso;simp[tyD]at hd;done) | simp[yJ,Mof,vY,zx,gIs,tyD,isT,z0M]
theorem ze7{a0 a1:fg!}{all:C!}(s:Sto):∀(ps:List (Int×Int))(aD:Int)(a b:Option D),(∀p∈ps,bA! p.1<2 ^ 400/\bA! p.2<2 ^ 400)-> ∃a' b',yL [] all (d5! (yN 3 4 d ρ s) (z0O ρ' s')) (og! (iF! (bO! p.1 p.2))) [a0,a1,e! aD,a,b] s=a6! [a0,a1,e! (aD+(og! (λp=>p.1*p.2)).sum),a',b']
 | [],aD,a,b,_=>⟨a,b,by simp[yL,okG]⟩ | p::ps,aD,a,b,h=>by
  have hp:=h p ju!;have mm:yT (d! p.1) (d! p.2) s=u! (p.1*p.2):=by
   rw[zfO,_h];exact⟨_i hp.1 (pw (by decide)),_i hp.2 (pw (by decide))⟩
  obtain⟨a',b',ih⟩:=ze7 s ps (aD+p.1*p.2) (e! p.1) (e! p.2) λq hq=>h q (.tail _ hq);refine aQ! a' b' ?_;have e:z0O [a0,a1,e! aD,e! p.1,e! p.2] s=a6! [a0,a1,e! (aD+p.1*p.2),e! p.1,e! p.2]:=by simp[mm]
  have og:okG [] all s:=by intro p hp;simp at hp
  rw[_p,yL,_h og,z8I,Rb];simp only[_F,_C];rw[e,Rb];simp only[_p,_aA];rw[<- Int.add_assoc];exact ih
theorem zog{u v:g!}(hu:∀x∈u,dc! 400)(hv:∀x∈v,dc! 400)(s:Sto):vR [rD u,aw!] s=u! (hq! u):=by
 have key:hz! (d=rD u->e=aw!->vR [d,e] s=u! (hq! u)):=qO! (by
  have st:zx [d4!,dK!,pc!,qB!,n9!] [d,e]=kO! i! A! a!:=rfl;have f1:z3W (kO! i! A! a!) s=a6! [i!,A!,e! 0,a!,a!]:=rfl;have hi:z4P (cg! n! 1) [i!,A!,e! 0,a!,a!] s=k! (ji! u v (iF! (bO! p.1 p.2)),[]):=by
   simp only[z4P,Rb];rw[hd,he];show et! (z3S (iL u) br!,[]++[]) s=_;rw[zip_rows];rfl
  obtain⟨a',b',lp⟩:=ze7 s (rs! u v) 0 a! a! (bo! ⟨hu _ (lO!).1,hv _ (lO!).2⟩);rw[zhQ,Int.zero_add]at lp;have f2:z0q [i!,A!,e! 0,a!,a!] s=a6! [i!,A!,e! (hq! u),a',b']:=by
   rw[z0q,qJ,hi,Rb];exact lp
  simp only[vR,Mof,z5L,st,_x];rw[zn f1,zn f2];rfl)
 exact key _ _ rfl rfl
theorem zpo{n m:Nat}{v:g!}{d:D}{ρ:Ev}{s:Sto}(h:lN!)(hd:Bn m d)(hm:m<=400)(i3:E! ρ 3 ag!)(mK:E! ρ 11 i!): ∃b,zI [d! 1,aw!,d] s=aM! b/\zc2 (zg Pg.yJ (aO! (zd 11) (hg! 3))) (go! (ez! Pg.vR (zd 11) 3) (cA! Pg.qd 3)) ρ s=aM! b:=by
 have n4:n<=4:=by have:=h.sz;unfold Sz at this;lia
 have gl:yM gn! s=u! n:=by simp[yM,zV,h.len]
 have w:zg Pg.yJ (aO! (zd 11) (hg! 3)) ρ s=aM! (z0M n d):=by
  rw[pm! (vr mK) (by rw[xh (vr i3),gl])];exact zoN hd.kd (by lia) s
 have a1:=z8O (n:=n) hd.kd (by lia) s;cases q:z0M n d with
 | false=>
  rw[q]at w a1;refine⟨t!,zgU h ?_,?_⟩
  ·have key:∀e x:D,yM [e] s=u! n->wO [e,d,x] s=cS!:=λe x g=>by simp[wO,Mof,z2U,zx,a1,g]
   exact key _ _ gl
  ·rw[z8s,w];rfl | true=>
  rw[q]at w;have ex:∃u:List Int,d=rD u/\pi!=n:=by cases d with
   | tup ys=>
    simp only[z0M,_Q,_au]at q;obtain⟨u,rfl⟩:=all_ints q.2;exact aA! u (by simpa using q.1) | _=>simp[z0M]at q
  obtain⟨u,rfl,lu⟩:=ex;have bu := ap! (hd.bd (iL u) x rfl (_t.mpr ⟨x,hx,rfl⟩));have b4 := ap! (_i (bu x hx) (pw hm));have v4:∀x∈v,dc! 400:=ap! (_i (h.abs x hx) (pw (by decide)));refine⟨bi! (hq! u=fM!),zgU h (zaM h lu bu (by decide) (by lia) s),?_⟩;have e1:zg Pg.vR (cg! (zd 11) 3) ρ s=u! (hq! u):=by rw[pm! (vr mK) (vr i3)];exact zog b4 v4 s
  have e2:zg Pg.qd (co! 3) ρ s=u! fM!:=by rw[xh (vr i3)];exact zoQ dt! s
  rw[z8s,w,Rb];simp only[_x];rw[op2 e1 e2,zcA]
noncomputable abbrev EV(sc:D)(a1 a2 a3 a4 a5 a6 a7 a8 a9 a10 a11 a12 a13:fg!):Ev:=[b! sc,a1,a2,a3,a4,a5,a6,a7,a8,a9,a10,a11,a12,a13]
section
variable {sc:D}{a1 a2 a3 a4 a5 a6 a7 a8 a9 a10 a11 a12 a13:fg!}{n:Nat}{v:g!}{r:Rl}{ls:fC!}{z:g!}{k:Nat}{B:Tb}{b:g!}{s:Sto}
theorem ix0{f:FE}{ρ:Ev}{x:D}{xs:C!}(h:aK!=bw! (x::xs)):eOp dIx f D! ρ s=k! x:=by rw[op2 h rfl];exact kZ! (by decide)
theorem ix1{f:FE}{ρ:Ev}{x y:D}{xs:C!}(h:aK!=bw! (x::y::xs)):eOp dIx f ak! ρ s=k! y:=by rw[op2 h rfl];exact kZ! (by decide)
theorem zsu(h:lN!)(S:Sh r n v ls z k B b):∃y6,z67 (EV sc a1 a2 ag! b3! (L! (aP!::ha!)) a6 a7 a8 a9 a10 a11 a12 a13) s=a6! (EV sc a1 a2 ag! b3! (L! (aP!::ha!)) y6 a7 a8 a9 a10 a11 a12 a13):=by
 have lb := S.tab.row _ (_u S.at_);have n4:n<=4:=by have:=h.sz;unfold Sz at this;omega
 obtain⟨ρ',s',e,y6,e1,e2⟩:=z58 (body:=d5! (yh 6 d ρ s) (z9p ρ' s')) (fun ρ S'=>∃y6,ρ=EV sc a1 a2 ag! b3! (L! (aP!::ha!)) y6 a7 a8 a9 a10 a11 a12 a13/\S'=s) (([0,1]:g!).map o4!) (λx hx ρ S' hI=>by
  obtain⟨y6,rfl,rfl⟩:=hI;refine⟨EV sc a1 a2 ag! b3! (L! (aP!::ha!)) dR! a7 a8 a9 a10 a11 a12 a13,S',?_,dR!,rfl,rfl⟩;rw[ve,Rb];show z9p (EV sc a1 a2 ag! b3! (L! (aP!::ha!)) dR! a7 a8 a9 a10 a11 a12 a13) S'=_;rw[z9p,zij];·rfl
  ·refine zpC (z2j ?_);rw[pm! (by rw[zeZ rfl x! x!];exact zkG h S S') (ix0 x!)];exact zks (k:=0) S' (zjj 2 (by omega))) (EV sc a1 a2 ag! b3! (L! (aP!::ha!)) a6 a7 a8 a9 a10 a11 a12 a13) s (aA! a6 rfl);refine as! y6 ?_;rw[z67,qJ,zv2,Rb];exact qf! (by rw[e1,e2])
theorem zdM(q:Int):∀u w:List Int,ji! u w (λp=>aJ! (p.1+q*p.2))=iL (ks! (λx y=>x+q*y) u w)
 | [],_=>by simp | _::_,[]=>by simp | a::u,c::w=>by
  have:=zdM q u w;simp only[_bn,_p,_ai]at this ⊢;rw[this]
theorem zp1{q:Int} {c:g!} {xs:C!} (hq:ok!<2 ^ 4) (lb:nY!<=4) (hb:∀x∈b,dc! 318) (hc:∀x∈c,dc! 318):z2k (EV sc a1 a2 a3 a4 (L! (aP!::xs)) a6 (e! q) (bX! c) a9 a10 a11 a12 a13) s=a6! (EV sc a1 a2 a3 a4 (L! (aP!::xs)) a6 (e! q) (bX! c) (bX! (ks! (λx y=>x+q*y) b c)) a10 a11 a12 a13):=by
 have hi:z4P (cg! (gI! 5) 8) (EV sc a1 a2 a3 a4 (L! (aP!::xs)) a6 (e! q) (bX! c) a9 a10 a11 a12 a13) s=k! (ji! b c (iF! (bO! p.1 p.2)),[]):=by
  have e0:eOp dIx (zd 5) D! (EV sc a1 a2 a3 a4 (L! (aP!::xs)) a6 (e! q) (bX! c) a9 a10 a11 a12 a13) s=k! aP!:=ix0 x!;simp only[z4P,zy,e0,Rb];show et! (z3S (iL b) (iL c),[]++[]) s=_;rw[zip_rows];rfl
 have cm:=comp_map (mp:=dz! 7) (fg:=yN 1 2) (fe:=jj! 1 (hk! 0 I!)) (pk! (gv! (bO! p.1 p.2))) (λp=>aJ! (p.1+q*p.2)) (λp=>[e! q,e! p.1,e! p.2]) (rs! b c) hi (λp _=>rfl) (bo! (by
   have m:eOp yT n! I! [e! q,e! p.1,e! p.2] s=u! (q*p.2):=by
    rw[ic! x!];exact z3A s hq (by decide) (hc _ (lO!).2) (by decide)
   rw[ic! m];rfl)) (by simp[cap];omega);rw[zdM]at cm;rw[z2k,zO,xh cm];rfl
theorem znL{q:Int}(hq:ok!<2 ^ 4){u w:g!}(hu:∀x∈u,dc! 318)(hw:∀x∈w,dc! 318):∀x∈ks! (λx y=>x+q*y) u w,dc! 323:=ap! (by
 obtain⟨i,hi,e⟩:=oN!;rw[List.getElem_zipWith]at e;have h1:=hu _ (_K (by simp at hi;omega:i<pi!));have h2:=zcm hq (hw _ (_K (by simp at hi;omega:i<w.length)));rw[<- e];have p:2 ^ 323=2 ^ 318*32:=by rw[show 323=318+5 from rfl,_bg]
 have p2:2 ^ (4+318)=2 ^ 318*16:=by rw[Nat.add_comm,_bg]
 rw[p2]at h2;rw[p];generalize 2 ^ 318=X at *;omega)
theorem zkb{things:C!}(h:lN!)(ht:∀d∈things,Bn 400 d):∃bz bj,yL [] things (d5! (yh 11 d ρ s) ((zA z0X z2w) ρ' s')) things (EV sc a1 a2 ag! a4 a5 a6 a7 a8 a9 a10 a11 a12 a13) s=a6! (EV sc a1 a2 ag! a4 a5 a6 a7 a8 a9 a10 bz bj a13):=by
 obtain⟨ρ',s',e,bz,bj,e1,e2⟩:=z58 (body:=d5! (yh 11 d ρ s) ((zA z0X z2w) ρ' s')) (fun ρ S'=>∃bz bj,ρ=EV sc a1 a2 ag! a4 a5 a6 a7 a8 a9 a10 bz bj a13/\S'=s) things (λx hx ρ S' hI=>by
  obtain⟨bz,bj,rfl,rfl⟩:=hI;obtain⟨w,t1,t2⟩:=zpo (ρ:=EV sc a1 a2 ag! a4 a5 a6 a7 a8 a9 a10 dR! bj a13) h (ht x hx) (by decide) rfl rfl;refine⟨EV sc a1 a2 ag! a4 a5 a6 a7 a8 a9 a10 dR! (b! (.bl w)) a13,S',?_,dR!,b! (.bl w),rfl,rfl⟩;rw[ve,Rb];show zA z0X z2w (EV sc a1 a2 ag! a4 a5 a6 a7 a8 a9 a10 dR! bj a13) S'=_;have f14:z0X (EV sc a1 a2 ag! a4 a5 a6 a7 a8 a9 a10 dR! bj a13) S'=F! (EV sc a1 a2 ag! a4 a5 a6 a7 a8 a9 a10 dR! (b! (.bl w)) a13) S':=by rw[z0X,zO,t2];rfl
  rw[zn f14,z2w,zij];·rfl
  ·refine zpC (z2j ?_);rw[ni! (by rw[zeZ rfl x! x!];exact t1)];exact zks (k:=0) S' trivial) (EV sc a1 a2 ag! a4 a5 a6 a7 a8 a9 a10 a11 a12 a13) s (eS! a11 a12 rfl);exact⟨bz,bj,qf! (by rw[e1,e2])⟩
end
end aZ
namespace Pr
open L2 Dd Pm Pg Pn Po
theorem m_many(n:Nat)(b:Nat):∃k:Nat,(ai! ((ai! (h! b<h! n) (h! b) n) > 1) (ai! (h! b<h! n) (h! b) n) 1)=h! k/\k<=b+1:=by
 by_cases h:h! b<n
 ·rw[_h h];by_cases h2:h! b > 1;·exact⟨b,by rw[_h h2],by lia⟩
  ·exact⟨1,by rw[_q h2];rfl,by lia⟩
 ·rw[_q h];by_cases h2:h! n > 1;·exact⟨n,by rw[_h h2],by lia⟩
  ·exact⟨1,by rw[_q h2];rfl,by lia⟩
end Pr
namespace aZ
open L2 Dd Pm Pg Pn Po Pb
noncomputable abbrev ziT:FS:=dw! z5b z5m z59 z52 z5g
noncomputable abbrev zpt:D->Ev->fF! Fl:=d5! (yh 1 d ρ s) ((dw! z5v z73 z6v z5N (dw! z67 z6a z2c z2k ziT)) ρ' s')
def EL(ns:g!)(ρ:Ev):j!:=∃a1 a2 a3 a4 a5 a6 a7 a8 a9 a10 a11 a12 a13,ρ=EV ek! a1 a2 a3 a4 a5 a6 a7 a8 a9 a10 a11 a12 a13
section
variable {sc:D}{a1 a2 a3 a4 a5 a6 a7 a8 a9 a10 a11 a12 a13:fg!}{n l:Nat}{v:g!}{r:Rl}{b u:g!}{s:Sto}
theorem zkH(x:Str) (hx:PyData.strOk x=c!) (s:Sto):dNe bQ! bQ! s=cS!:=ne_self (k:=0) (d:=bQ!) hx (by decide) s
theorem zqh{C:Tb}{c:g!}(h:lN!)(hp:Pot s l)(hb:∀x∈b,dc! 323)(b1:1<=nY!)(b4:nY!<=4)(hu:∀x∈u,dc! 323)(u1:1<=pi!)(u4:pi!<=4)(hc:∀x∈c,dc! 323): ∃iZ bz bj i6 s',ziT (EV sc a1 M! ag! b3! (L! (aP!::rD c::hG!)) a6 a7 a8 il! a10 a11 a12 a13) s=F! (EV sc a1 M! ag! b3! (L! (aP!::rD c::hG!)) a6 a7 a8 il! iZ bz bj i6) s':=by
 have l4:=h.toLot.le4;have l2:2<=J!:=by have:=h.sz;have:=h.len;unfold Sz at *;lia
 obtain⟨cA,s1,e1,kb,d1⟩:=zi3 hp h.abs (by decide) (by lia) (by lia);have f12:z5b (EV sc a1 M! ag! b3! (L! (aP!::rD c::hG!)) a6 a7 a8 il! a10 a11 a12 a13) s=hl! (EV sc a1 M! ag! b3! (L! (aP!::rD c::hG!)) a6 a7 a8 il! j0! a11 a12 a13):=by rw[z5b,zO,ni! x!,e1];rfl
 obtain⟨t3,s2,e2,k2,d2⟩:=zi3 d1.pot hb (by decide) b1 b4;obtain⟨t4,s3,e3,k3,d3⟩:=zi3 d2.pot hu (by decide) u1 u4;obtain⟨t6,s4,e4,k4,d4⟩:=zq0 d3.pot;have c6:dM! 6<=cap:=by decide
 have lst:kY (fn! (gI! 5) (zd 9) (zg oh! (aO! I! (gI! 5))) (ez! oh! I! 9) (aO! (fb! 5 ak!) (cA! Pg.vO 2))) (EV sc a1 M! ag! b3! (L! (aP!::rD c::hG!)) a6 a7 a8 il! j0! a11 a12 a13) s1=.ok (ab! [aP!,rD u,t3,t4,rD c,t6]) s4:=by
  generalize hρ:EV sc a1 M! ag! b3! (L! (aP!::rD c::hG!)) a6 a7 a8 il! j0! a11 a12 a13=ρ;have i5:∀s,zd 5 ρ s=bw! (aP!::rD c::hG!):=λs=>vr (by rw[<- hρ];rfl);have i9:∀s,zd 9 ρ s=k! (rD u):=λs=>vr (by rw[<- hρ];rfl);have i2:∀s,zd 2 ρ s=k! ea!:=λs=>vr (by rw[<- hρ];rfl);have g3:zg oh! (aO! I! (gI! 5)) ρ s1=b2! t3:=by rw[pm! (i2 s1) (ix0 (i5 s1)),e2]
  have g4:zg oh! (cg! I! 9) ρ s2=.ok t4 s3:=by rw[pm! (i2 s2) (i9 s2),e3]
  have g6:zg Pg.vO (co! 2) ρ s3=.ok t6 s4:=by rw[xh (i2 s3),e4]
  have j0 := ix0 (i5 s1);have j1 := ix1 (i5 s3);rw[z6p,zy,j0,Rb,zy,i9,Rb,zy,g3,Rb,zy,g4,Rb,zy,j1,Rb,zy,g6,Rb,zM];simp only[Rb];rw[_h (show r! ([aP!,rD u,t3,t4,rD c,t6]:C!)<=cap from c6)]
 obtain⟨bz,bj,lp⟩:=zkb (things:=[aP!,rD u,t3,t4,rD c,t6]) h (hY! (by
  simp only[_w,_aI,_ch]at hd;rcases hd with rfl | rfl | rfl | rfl | rfl | rfl;·exact (Bn.row hb).up (by decide)
  ·exact (Bn.row hu).up (by decide)
  ·exact k2.up (by decide)
  ·exact k3.up (by decide)
  ·exact (Bn.row hc).up (by decide)
  ·exact zlE k4 (by decide)));have f13:z5m (EV sc a1 M! ag! b3! (L! (aP!::rD c::hG!)) a6 a7 a8 il! j0! a11 a12 a13) s1=F! (EV sc a1 M! ag! b3! (L! (aP!::rD c::hG!)) a6 a7 a8 il! j0! bz bj a13) s4:=by
  rw[z5m,qJ,jq,lst,Rb];simp only[Rb];exact lp
 obtain⟨no,s5,e5,fE,d5⟩:=zgm r d4.pot;have f17:z59 (EV sc a1 M! ag! b3! (L! (aP!::rD c::hG!)) a6 a7 a8 il! j0! bz bj a13) s4=F! (EV sc a1 M! ag! b3! (L! (aP!::rD c::hG!)) a6 a7 a8 il! j0! bz bj (b! no)) s5:=by rw[z59,zO,ni! x!,e5];rfl
 have f18:z52 (EV sc a1 M! ag! b3! (L! (aP!::rD c::hG!)) a6 a7 a8 il! j0! bz bj (b! no)) s5=F! (EV sc a1 M! ag! b3! (L! (aP!::rD c::hG!)) a6 a7 a8 il! j0! bz bj (b! no)) s5:=by
  rw[z52,zij];·rfl
  ·refine zsW (z2j ?_) (z2j ?_)
   ·rw[op2 (by rw[zeZ rfl x! x!];exact zbh (zkS fE s5)) rfl];exact zkH _ (by decide +kernel) s5
   ·rw[op2 (by rw[zeZ rfl x! x!];exact zbh (zkS fE s5)) rfl];exact zkH _ (by decide +kernel) s5
 have gF:z5g (EV sc a1 M! ag! b3! (L! (aP!::rD c::hG!)) a6 a7 a8 il! j0! bz bj (b! no)) s5=F! (EV sc a1 M! ag! b3! (L! (aP!::rD c::hG!)) a6 a7 a8 il! j0! bz bj (b! no)) s5:=by
  rw[z5g,zij];·rfl
  ·rcases zj1 kb.kd s5 with⟨n',v',rfl,hv,h1,h2⟩ | ⟨h1,h2⟩
   ·rw[zi0,z8C,z2j (by rw[lS!,h2])];rfl
   ·rw[zi0,z8C,z2j (by rw[lS!,h2])];simp only[Rb,_x];have c2:dM! 2<=cap:=by decide
    refine z2j ?_;rw[op2 ?_ (twice ..),zoz (by decide +kernel)];have g1:zg zI (zb D! (cg! (zd 4) 10)) (EV sc a1 M! ag! b3! (L! (aP!::rD c::hG!)) a6 a7 a8 il! j0! bz bj (b! no)) s5=.ok (ax! az!) s5:=by rw[zeZ rfl x! x!];exact ziL r h1
    have g2:zg zI (zb ak! (aO! (zd 10) (gI! 5))) (EV sc a1 M! ag! b3! (L! (aP!::rD c::hG!)) a6 a7 a8 il! j0! bz bj (b! no)) s5=.ok (ax! az!) s5:=by rw[zeZ rfl x! (ix0 x!)];exact zfK h1
    simp only[z6p,zy,zM,g1,g2,Rb,_j,_l,_h c2]
 exact⟨_,_,_,_,_,by unfold ziT;rw[zn f12,zn f13,zn f17,zn f18,gF]⟩
end
theorem znF(ns:g!) (j:Nat) (ρ:Ev) (s:Sto) (h:EL ns ρ):∃ ρ' s',zpt (d! j) ρ s=F! ρ' s'/\EL ns ρ':=by
 obtain⟨a1,a2,a3,a4,a5,a6,a7,a8,a9,a10,a11,a12,a13,rfl⟩:=h;rw[show zpt (d! j) (EV ek! a1 a2 a3 a4 a5 a6 a7 a8 a9 a10 a11 a12 a13) s=(dw! z5v z73 z6v z5N (dw! z67 z6a z2c z2k ziT)) (EV ek! aV! a2 a3 a4 a5 a6 a7 a8 a9 a10 a11 a12 a13) s from rfl];obtain⟨c,e1⟩:=zoH ns j s;obtain⟨q,e2⟩:=zsp c s;have hp:Pot (s++[[d! q]]) cf!:=⟨q,by simp⟩;obtain⟨n,v,s1,e3,hv,d1⟩:=zsL hp;have n4:2<=n/\n<=4:=by have:=hv.sz;unfold Sz at this;lia
 have f2:z5v (EV ek! aV! a2 a3 a4 a5 a6 a7 a8 a9 a10 a11 a12 a13) s=F! (EV ek! aV! N! a3 a4 a5 a6 a7 a8 a9 a10 a11 a12 a13) (s++[[d! q]]):=by rw[z5v,zO,xh (by rw[ni! x!,e1]),e2];rfl
 have f3:z73 (EV ek! aV! N! a3 a4 a5 a6 a7 a8 a9 a10 a11 a12 a13) (s++[[d! q]])=hl! (EV ek! aV! N! ag! a4 a5 a6 a7 a8 a9 a10 a11 a12 a13):=by rw[z73,zO,lS!,e3];rfl
 obtain⟨r,s2,e4,d2⟩:=zoX (f:=I!) (ρ:=EV ek! aV! N! ag! a4 a5 a6 a7 a8 a9 a10 a11 a12 a13) d1.pot x!;have f4:z6v (EV ek! aV! N! ag! a4 a5 a6 a7 a8 a9 a10 a11 a12 a13) s1=F! (EV ek! aV! N! ag! b3! a5 a6 a7 a8 a9 a10 a11 a12 a13) s2:=by rw[z6v,zO,e4];rfl
 obtain⟨ls,z,k,B,b,S⟩:=zpj r hv;have f5:z5N (EV ek! aV! N! ag! b3! a5 a6 a7 a8 a9 a10 a11 a12 a13) s2=F! (EV ek! aV! N! ag! b3! (L! (aP!::ha!)) a6 a7 a8 a9 a10 a11 a12 a13) s2:=by rw[z5N,zO,ni! x!,znD hv S];rfl
 obtain⟨y6,f6⟩:=zsu hv S;have le:r! lq!=n-1:=by rw[List.length_eraseIdx,_h (by rw[S.tab.len];exact S.kn),S.tab.len]
 have bI:∀x∈lq!,x.length=n/\∀y∈x,of!<2 ^ 318:=ap! (S.rowb x (List.mem_of_mem_eraseIdx hx));have mb := _u S.at_;obtain⟨lb,bb⟩:=S.rowb b mb;obtain⟨t,s3,e9,t0,t1,d3⟩:=vB (f:=I!) (g:=O! 9) (ρ:=EV ek! aV! N! ag! b3! (L! (aP!::ha!)) y6 a7 a8 a9 a10 a11 a12 a13) d2.pot (by decide) (kA (by decide)) rfl rfl;have f9:z6a (EV ek! aV! N! ag! b3! (L! (aP!::ha!)) y6 a7 a8 a9 a10 a11 a12 a13) s2=F! (EV ek! aV! N! ag! b3! (L! (aP!::ha!)) y6 (e! (t-4)) a8 a9 a10 a11 a12 a13) s3:=by
  rw[z6a,zO,yx,e9,Rb];rfl
 obtain⟨i,s4,pG,i0,i1,d4⟩:=vB (f:=I!) (g:=eOp z7h (hg! 3) ak!) (far:=h! n-1) (ρ:=EV ek! aV! N! ag! b3! (L! (aP!::ha!)) y6 (e! (t-4)) a8 a9 a10 a11 a12 a13) d3.pot (by lia) (kA (by lia)) rfl (by
  have gl:yM gn! s3=.ok (d! n) s3:=by simp[yM,zV,hv.len]
  rw[op2 (by rw[lS!,gl]) rfl,zfD]);have hi:i2!<r! lq!:=by lia
 have f10:z2c (EV ek! aV! N! ag! b3! (L! (aP!::ha!)) y6 (e! (t-4)) a8 a9 a10 a11 a12 a13) s3=F! (EV ek! aV! N! ag! b3! (L! (aP!::ha!)) y6 (e! (t-4)) (bX! (lq![i.toNat])) a9 a10 a11 a12 a13) s4:=by
  have ix:cU! (ab! (aP!::ha!)) (1+i) s4=.ok (rD (lq![i.toNat])) s4:=by
   refine wZ (by lia) ?_;rw[show eQ! (1+i)=i2!+1 by lia,_d,_z,_b hi];rfl
  rw[z2c,zO,yx,x!,Rb,yx,z00,Rb,pG,Rb,z81,Rb,ix];rfl
 obtain⟨lc,bc⟩:=bI _ (_K hi);have hq:bA! (t-4)<2 ^ 4:=by lia
 have f11:=zp1 (sc:=ek!) (a1:=aV!) (a2:=N!) (a3:=ag!) (a4:=b3!) (a6:=y6) (a9:=a9) (a10:=a10) (a11:=a11) (a12:=a12) (a13:=a13) (s:=s4) (b:=b) (xs:=ha!) hq (by lia) bb bc;have up:∀{x:List Int},(∀y∈x,of!<2 ^ 318)->∀y∈x,of!<2 ^ 323:=λhx y hy=>_i (hx y hy) (pw (by decide));have bu:=znL hq bb bc;have lu:r! (ks! (λx y=>x+(t-4)*y) b (lq![i.toNat]))=n:=by rw[List.length_zipWith];lia
 cases eC:lq! with
 | nil=>rw[eC]at le;simp at le;lia | cons c0 C=>
  have pH:=bI c0 (by rw[eC];exact ju!);simp only[eC,_p]at f2 f3 f4 f5 f6 f9 f10 f11 bu lu;obtain⟨iZ,bz,bj,i6,s',fr⟩:=zqh (sc:=ek!) (a1:=aV!) (a6:=y6) (a7:=e! (t-4)) (a10:=a10) (a11:=a11) (a12:=a12) (a13:=a13) (C:=C) (c:=c0) (b:=b) (r:=r) hv d4.pot (up bb) (by lia) (by lia) bu (by lia) (by lia) (up pH.2);have w:=kQ! f2 (kQ! f3 (kQ! f4 (kQ! f5 (kQ! f6 (kQ! f9 (kQ! f10 (kQ! f11 fr)))))));exact⟨_,s',w,_,_,_,_,_,_,_,_,_,iZ,bz,bj,i6,rfl⟩
theorem zqo(ns:g!):∃ ρ' s',zcv (EV ek! a! a! a! a! a! a! a! a! a! a! a! a! a!) []=F! ρ' s':=by
 obtain⟨k,ek,hk⟩:=Pr.m_many e7! 10;rw[show Z! 10=10 from rfl]at ek;obtain⟨ρ',s',e,_⟩:=z58 (fun ρ _=>EL ns ρ) (ym k) (λx hx ρ s hI=>by
  obtain⟨j,_,rfl⟩:=zf8 hx;exact znF ns j ρ s hI) (EV ek! a! a! a! a! a! a! a! a! a! a! a! a! a!) [] ⟨_,_,_,_,_,_,_,_,_,_,_,_,_,rfl⟩;refine aQ! ρ' s' ?_;unfold zcv;rw[qJ,jk (n:=k) (s1:=[]) (by lia) (by simp only[yg,zy,zM,z00,yf,_c,Rb,yM,zV,_W,zka,zjO,ek]),Rb];exact e
theorem znm{ls:fC!}{z:g!}{k:Nat}{B:Tb}{b:g!}(S:Sh .nx 2 [0,4] ls z k B b):b=[0,1]:=by
 have e:ls=[[0,4]]:=by
  have:=S.run;cases this with
  | done=>rfl | step he=>exact cN! (show nb! [0,4]=c! by decide) (by simp[he])
 have hB:B=[[1,0],[0,1]]:=by
  rw[S.B_,e];decide
 have fn:=S.fn;rw[hB]at fn;have:fW! ([[1,0],[0,1]]:Tb) (λx=>cr! (dot x [0,4]) 0)=[[0,1]]:=by decide
 rw[this]at fn;exact (List.cons.inj fn).1.symm
theorem zsI(ρ:Ev) (s:Sto):z9E ρ s=k! (.rt eA!):=by
 have hv:LotB 2 104 [0,4]:=⟨mq! (by decide) (by decide) ⟨4,by decide,by decide⟩,by decide⟩;obtain⟨ls,z,k,B,b,S⟩:=zpj .nx hv;have t1:=zkG hv S s;rw[znm S]at t1;have t2:=zgU hv (zaM (k:=10) hv (u:=[9,1]) rfl (by decide) (by decide) (by decide) s);rw[show bi! (dot [9,1] [0,4]=z2M [0,4])=c! by decide]at t2;have c2:dM! 2<=cap:=by decide
 have q1:=eq_self (k:=1) (d:=p! (bO! 0 1)) (by decide +kernel) (by decide) s;have u1:zI [dp!,js!,p! (bO! 0 4)] s=bf! (bO! 0 1):=t1;have u2:zI [d! 1,p! (bO! 0 4),p! (bO! 9 1)] s=bN!:=t2;have q2:dIs eA! eA! s=bN!:=rfl;rw[z9E,yo,z8s];simp only[yx,yg,zy,zM,z1V,z00,Rb,_j,_l,_h c2,u1,u2,q1,q2]
theorem zjT:∀ns:List Int,e7!<=63->∃s',zn9 [.scr h3!] []=bR! eA!:=λns hn=>by
 obtain⟨ρ',s',e⟩:=zqo ns;refine as! s' ?_;have st:zx [l1!,qA!,e9!,dL!,fv!,kr!,"_law_turn",iA!,pg!,ll!,"_law_bad",ja!,oc!,"_law_none"] [.scr h3!]=EV ek! a! a! a! a! a! a! a! a! a! a! a! a! a!:=rfl;unfold zn9 Mof zkt;rw[_h (by rfl),st,zn e,zsI]
end aZ
namespace aZ
open L2 Dd Pg
theorem zo3:∀x∈rsX,x∈askQ.xs:=by decide +kernel
theorem zuQ:∀x∈csX,x∈askQ.xs:=by decide +kernel
theorem zuS:∀x∈rsX,∀y∈csX,((x,y),x==y)∈askQ.ps:=by decide +kernel
theorem zuN:l! k1!∈askQ.xs:=by decide +kernel
theorem zv0:∀x∈rsX,((x,l! k1!),c!)∈askQ.ps:=by decide +kernel
theorem all_mk{P:Program}{w:World}{K:W.Frag}{h:Heap}{mg:Str->aN!}{fa:Addr}(X:hM!)(G:or! mg)(pI:mg "law"=a3! fa)(e:zdE gT! K=iP! gT!) : ∃fd:FuncData,(∀(s:Shared)(v:Value),p4! s fd (dy! [v]) [(l1!,v)])/\∀base:Heap,K.In P!->sb! mg->z99 P w K mg P! CX0 15 fa fd [l1!] (zmZ K):=by
 obtain⟨rn,rq,pJ,mL⟩:=zl6 X G e 68 rfl;have e0:=pI.symm.trans pJ;cases e0;obtain⟨oc,od,kV,aE,pm,an,aj,ct,cF,rfl,hl,hc⟩:=mL.ex;have GG:∀(x:Str)(v:Value),f2! K x=b! bx!->mg x=bx!:=λx v h=>W.mg_of X G h;have:Txt P w K mg:=⟨zkP X G e 0 rfl,zkP X G e 1 rfl,uA X G e 0 rfl,uA X G e 1 rfl,uA X G e 2 rfl,uA X G e 3 rfl,uA X G e 4 rfl,uA X G e 5 rfl,uA X G e 6 rfl,uA X G e 7 rfl,uA X G e 8 rfl,uA X G e 9 rfl,uA X G e 10 rfl,uA X G e 11 rfl,uA X G e 12 rfl,uA X G e 13 rfl,uA X G e 14 rfl,uA X G e 15 rfl,uA X G e 16 rfl,λi _ _=>zl6 X G e i,zr8 X G e "RULES" ze8 (_u (i:=0) rfl),z8P GG (zax e gS! (zo3 _ (by decide +kernel))),z8P GG (zax e gR! (zo3 _ (by decide +kernel))),z8P GG (zax e iU! (zo3 _ (by decide +kernel))),z8P GG (zax e iV! (zo3 _ (by decide +kernel))),zg7 GG (ap! (zax e x (zo3 x hx))) (ap! (zax e x (zuQ x hx))) (λx hx y hy=>by rw[zqq e x y (x==y) (zuS x hx y hy)];rfl),ap! (znz GG (zax e x (zo3 x hx)) (zax e k1! zuN) (by rw[zqq e x k1! c! (zv0 x hx)];rfl))⟩;refine⟨W.fnOf "law" "law" (jt z7O) (xG z7O) (zj z7O) X! kV aE pm an aj ct,λs v=>.of_eq rfl,λbase _ _=>?_⟩;exact zqk (x:="law") (zer mL) zjT
theorem boot_:∀w:World,jw! (W.fencedOpening rX! pO! w 12006) (G!,s.gens,s.drawn,ft!)=b! (jO!,jh!,pP!,pQ!):= W.boot_open (by kernel_rfl) (by decide) (λs=>by kernel_rfl)
theorem left_:W.LeftO pO! qv looseQ xtQ (obsS gT!) (valS gT!) 12006:=zhu "special-get-raises" boot_ (λw os=>z7N (f:=λs=>(mS! s,obsS gT! s)) (ztI w) (bsz w) (zbV (za3 w os) (zaR w os))) (λw os=>z7N (f:=λs=>(mS! s,obsS gT! s)) (ztI w) (bsz w) (zbV (zcz w os) (zcP w os)))
end aZ
end
end
open PySem PySem.Spec PyProof.Rows
open PySem.W
set_option maxRecDepth 100000 in
set_option maxHeartbeats 0 in
theorem PySem.Challenge.cw_drawndown_k21_weights_looked_at_and_told_holds : PySem.Challenge.rw_drawndown_k21_weights_looked_at_and_told.Holds := by
  w_on; refine holds_law aZ.said_ λpK => ?_
  refine holds_open (q := aZ.qv) (loose := aZ.looseQ) (Xt := aZ.xtQ) (XP := XL aZ.qv aZ.lvQ) (Yf := Dd.obsS aZ.askQ) (Ya := Dd.valS aZ.askQ) (YP := Dd.saysS aZ.askQ) (N := 12006) aZ.left_ (Dd.zlM aZ.askQ) (Dd.zf1 aZ.askQ) (λs e => xl_of s (_ac.mp e).1) XL.keeps (by rfl) (by rfl) (by rfl) (λs e => recFacts_of (_ac.mp e).2) (by rfl) (by first | assumption | decide +kernel) (by decide +kernel) ⟨rfl, rfl, rfl, rfl, rfl, by decide +kernel⟩ ?hw ?hc
  (case hw => w_witness2)
  refine Dd.walkY (l := PySem.Challenge.rw_drawndown_k21_weights_looked_at_and_told) (n := 63) (k := 15) (x := "_law_script") rfl (by decide) (by decide) rfl ⟨rfl, by decide, by decide, rfl⟩ ?F
  case F =>
    intro w mg fa h Yy G cY XP
    obtain⟨K, KX, e⟩ := Yy
    exact⟨K, KX, aZ.all_mk KX G cY e ⟩
